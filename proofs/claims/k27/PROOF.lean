import PyProof.Rows.All
import Wide.All
import OpenK.AllK
import Wide.FinOn
import PyProof.EqAt
import PyProof.EqKinds
import PyProof.TupleCall
import HandS.Base
import HandS.Call
import HandS.List
import HandS.Ends
import HandS.More
import HandS.Exc
import HandS.Star
import HandS.Defaults
import HandS.Words
import HandS.HeadEnd
import HandS.HeadHook1
import HandS.HeadHook2
import HandS.Head0
import HandS.Head1
import HandS.Head2
import HandS.Property
import KE.KStateDown
import HandS.ClsMeth
import HandS.Comp
import HandS.Set
import HandS.Strs
import HandS.SetBool
import HandS.Dict
import HandS.IsInst
import KE.SortData
import PyProof.ReprRoads
import HandS.FStr
import HandS.Text
import HandS.StrMore
import HandS.Evl
import HandS.TryOnly
import HandS.TryMany
import HandS.ExcOwn
import HandS.WordsExc
import HandS.WordsList
import HandS.Wide
import HandS.TupAny
import HandS.Style
import HandS.Conv
import HandS.Flow
import HandS.Iter
import HandS.TupSets
import HandS.SetKeys
import HandS.CallLocal
import PyProof.ReprLen
import HandS.RaiseMore
import KE.KOpsOwn
import KE.DatumOrd
import HandS.SortKw
import HandS.SlotsOwn
import HandS.Deep
import HandS.Lambda
import HandS.NestedK
import HandS.EndTab
import HandS.HeadHook4
import KE.KSuper
import HandS.SetFor
import KE.KSetDisp
import HandS.MakeKw
import PySem.Challenge.RW_countalike_k27_books_made_and_described
set_option Elab.async false
set_option linter.all false
set_option maxRecDepth 100000
set_option maxHeartbeats 4000000
/-! defs that are called where no repr is under way (the stack's guards are known to be none) -/
namespace Ca
open PySem PySem.Spec PyProof.Rows L2
def FnG (P : Program) (w : World) (K : PySem.W.Frag) (mg : PySem.Str → Option Value) (base : Heap) (CX : CXT) (k : Nat) (f : Addr) (sp : Sp) : Prop :=
  ∀ (A : Around) (outer : List Env) (s : Shared) (H : Hp) (us : List Value) (vs : List V) (Q : VK) (E : XK), A.guards = some [] → Room k A →
    Env0 P w K mg base A outer s H → Vals vs us → sp vs H Q E → codeAny (model P w) A (.call (.ref f) ⟨us, []⟩) (CR CX outer P w H s Q E) s
section
variable {P : Program} {w : World} {K : PySem.W.Frag} {mg : PySem.Str → Option Value} {base : Heap} {CX : CXT} {k : Nat} {f : Addr} {fd : FuncData} {sp : Sp}
  {name qual : PySem.Str} {params : Arguments} {body : List Stmt} {scope : Scope} {N ps : List PySem.Str}
theorem FnG.mono {j : Nat} (F : FnG P w K mg base CX j f sp) (h : j ≤ k) : FnG P w K mg base CX k f sp :=
  fun A outer s H us vs Q E hg hr => F A outer s H us vs Q E hg (hr.mono h)
theorem fng_of (F : FunD K name qual params body scope [] [] f fd) (S : FnScope N ps scope)
    (bd : ∀ (s : Shared) (us : List Value), us.length = ps.length → BindsTo s fd ⟨us, []⟩ (ps.zip us)) (len : ∀ vs H Q E, sp vs H Q E → vs.length = ps.length)
    (hbody : ∀ (cdv : Value) (A : Around) (outer : List Env) (s : Shared) (H : Hp) (vs : List V) (Q : VK) (E : XK), A.guards = some [] →
      Room k (A.deeper (envOfC qual scope s.heap.objs.size f cdv)) → sp vs H Q E →
      ∃ t, PSs (cxOf CX P w K mg base N qual scope f cdv A outer s H E) body t ∧ t { nx := fun _ H' => Q .non H', rt := Q } (start N vs) H) :
    FnG P w K mg base CX (k + 1) f sp := by
  obtain ⟨oc, od, dV, kV, doc, pm, an, cdv, ct, osl, rfl, lk, hcd, _, _⟩ := F.ex
  intro A outer s H us vs Q E hg hr e0 r hsp
  have l1 := len _ _ _ _ hsp
  have l2 : us.length = ps.length := by rw [← r.length]; exact l1
  refine StX.run_bnd (G := fun zs H2 => zs = vs ∧ H2 = H) lk hcd S hr e0 (fun A' Ex Q' h => ?_) fun s2 H2 zs ⟨e1, e2⟩ hr' => ?_
  · exact bd s us l2 _ _ _ _ (h s H vs us e0 (Un.kept fun _ _ e => e) rfl (fun _ _ z => z) r l1 ⟨rfl, rfl⟩)
  · subst e1 e2
    exact hbody cdv A outer s2 _ _ Q E hg hr' hsp
end
section
variable {X : Cx} {CX : CXT} {k : Nat} {f : Addr} {sp : Sp} {E : XK} {x : PySem.Str} {p pos : Pos} {e : Expr} {es : List Expr} {t : TA}
theorem run_fnG {pins : List (Addr × Obj)} {σ : L2.St} {H : Hp} {s : Shared} {Q : VK} {us : List Value} {vs : List V} (F : FnG X.prog X.w X.K X.mg X.base CX k f sp)
    (hg : X.A.guards = some []) (hr : Room k X.A) (hx : Passes CX X E) (I : Inv X pins σ H s) (r : Vals vs us) (h : sp vs H Q E) :
    wpAny (model X.prog X.w) X.A (call (.ref f) us) (EP X pins σ Q) X.xe s := by
  refine wpAny_call (codeAny_mono (F X.A X.stack s H us vs Q E hg hr I.env0 r h) fun r s' hq => ?_)
  cases r with
  | error e => exact hx pins σ H s e s' I hq
  | ok fl =>
    cases fl with
    | ret u => exact I.after hq
    | _ => exact False.elim hq
/-- f(e, ..) of such a def -/
theorem pe_callG (F : FnG X.prog X.w X.K X.mg X.base CX k f sp) (hg : X.A.guards = some []) (hr : Room k X.A) (hgl : Gl X x) (hm : X.mg x = some (.ref f)) (hk : PySem.W.keepIn X.K (.ref f) = true)
    (hx : Passes CX X E) (ha : PA X (e :: es) t) (hdb : (x == ("__debug__" : PySem.Str)) = false := by decide)
    (he : starEach (e :: es) X.env = (false, eval e X.env) :: starEach es X.env := by rfl) (hpl : (backTo pos (starEach es X.env)).any (·.1) = false := by rfl) :
    PE X (.Call (.Name x p) (e :: es) [] pos) (tCall sp [] E t) := by
  refine ⟨fun pins s σ H Q I h => wpAny_Call_Name_kw (ld_glob I hgl hm ?_ hdb)⟩
  refine PySem.W.callWith_K (h₀ := X.base) I.ok.mod.kin hk (thn (ha.run pos pins s σ H _ I h) fun us s1 ⟨vs, H1, I1, r, q⟩ => ⟨I1.kIn, ?_⟩) he hpl
  have q2 : sp (vs ++ []) H1 Q E := q
  rw [List.append_nil] at q2
  exact run_fnG F hg hr hx I1 r q2
end
/-! ### the law's own call -/
theorem law_callG {P : Program} {w : World} {K : PySem.W.Frag} {mg mb : PySem.Str → Option Value} {k : Nat} {fa a : Addr} {sp : Sp} {s₁ : Shared} {vs : List Value} {ns : List Int}
    (KX : K.In s₁.heap) (gns : s₁.heap.Ns mainGlobals mg) (bns : s₁.heap.Ns builtinsNs mb) (bb : ∀ x : PySem.Str, x ≠ "__name__" → mb x = bootBuiltins x) (lim : s₁.heap.NoLimit)
    (hgen : s₁.gens = #[]) (ha : s₁.heap.get? a = some { cls := .type "list", data := .seq vs.toArray }) (hi : IntsAre vs ns) (hl : ns.length ≤ sizeLine) (hr : Room k callerA)
    (F : ∀ base : Heap, K.In base → base.Ns mainGlobals mg → FnG P w K mg base CX0 k fa sp)
    (hsp : ∀ H : Hp, Only H → SqL K H a (ns.map V.int) → sp [.ref a] H (fun v _ => v = .bl true) fun _ _ _ => False) :
    codeAny (model P w) callerA (.call (.ref fa) ⟨[.ref a], []⟩) (fun r s' => r = .ok (.ret (.bool true)) ∧ OldK s₁.heap s'.heap ∧ s'.os = s₁.os ∧ AllBare s'.gens) s₁ := by
  have rv := vals_ints hi
  have lv := hi.length
  have main : ∀ H : Hp, Only H → SqL K H a (ns.map V.int) → HOk P w H s₁.heap → (∀ b, H b ≠ none → b = a) → (H a ≠ none → K.lookup a = none) →
      codeAny (model P w) callerA (.call (.ref fa) ⟨[.ref a], []⟩) (fun r s' => r = .ok (.ret (.bool true)) ∧ OldK s₁.heap s'.heap ∧ s'.os = s₁.os ∧ AllBare s'.gens) s₁ := by
    intro H only sq hok only_a inK
    have un_dict : ∀ {b : Addr} {o : Obj} {es : Array DictEntry} {ep : Nat}, s₁.heap.get? b = some o → o.data = .dict es ep → H b = none := fun {b o es ep} e d => by
      cases q : H b with
      | none => rfl
      | some u =>
        obtain rfl : b = a := only_a b (by rw [q]; simp)
        rw [ha] at e
        cases e
        cases (show Data.seq vs.toArray _ = Data.dict es ep from d)
    have ns_hid : ∀ {b : Addr} {m : PySem.Str → Option Value}, s₁.heap.Ns b m → (hidT s₁.heap H).Ns b m := fun {b m} ⟨o, es, ep, e, d, z⟩ =>
      ⟨o, es, ep, hidT_get e (un_dict e d), d, z⟩
    have kHid : K.In (hidT s₁.heap H) := fun b o e => by
      refine hidT_get (KX b o e) ?_
      cases q : H b with
      | none => rfl
      | some u =>
        obtain rfl : b = a := only_a b (by rw [q]; simp)
        rw [inK (by rw [q]; simp)] at e
        cases e
    have md : Mod K mg (hidT s₁.heap H) := ⟨kHid, ns_hid gns, ⟨mb, ns_hid bns, bb⟩, let ⟨mc, h1, h2⟩ := lim; ⟨mc, ns_hid h1, h2⟩⟩
    have env : Env0 P w K mg (hidT s₁.heap H) callerA [] s₁ H := ⟨rfl, md, fun b o e => of_hidT e, Nat.le_of_eq (hidT_size _ _), trivial,
      fun b hb => absurd (show b ∈ ([] : List Addr) from hb) (by simp), hok, .of_eq hgen⟩
    refine codeAny_mono (F _ kHid (ns_hid gns) callerA [] s₁ H [.ref a] [.ref a] _ _ rfl hr env (.cons rfl .nil) (hsp H only sq)) fun r s' h => ?_
    cases r with
    | error e => exact False.elim h
    | ok fl =>
      cases fl with
      | next => exact False.elim h
      | brk => exact False.elim h
      | cont => exact False.elim h
      | ret u =>
        obtain ⟨v, H', os, bare, un, hok', r', q⟩ := h
        obtain rfl : v = .bl true := q
        obtain rfl : u = Value.bool true := r'
        refine ⟨rfl, OldK.of_keep fun b o e => ?_, os, bare⟩
        cases q : H b with
        | none => exact un.keep b o e q (fun z => absurd (show b ∈ ([] : List Addr) from z) (by simp)) (by simp)
        | some u =>
          rcases only b with z | ⟨ob, xs, z⟩
          · rw [q] at z
            cases z
          · obtain ⟨e1, _⟩ := hok b _ z
            obtain ⟨e2, _⟩ := hok' b _ (un.frzs b ob _ z)
            rw [e] at e1
            cases e1
            exact e2
  cases hk : K.lookup a with
  | some o =>
    have e := KX a o hk
    rw [ha] at e
    cases e
    refine main (fun _ => none) (fun _ => .inl rfl) (.inr ⟨_, vs.toArray, _, hk, rfl, rfl, rfl, ?_, by simpa using rv⟩) (fun b u z => ?_) (fun b z => absurd rfl z) fun z => absurd rfl z
    · rw [List.size_toArray, lv]
      exact hl
    · cases (show (none : Option HO) = some u from z)
  | none =>
    let oa : Obj := { cls := .type "list", data := .seq vs.toArray }
    refine main (fun b => if b = a then some (.frz oa (.lst (ns.map V.int))) else none) (fun b => ?_) (.inl (.inr ⟨oa, if_pos rfl⟩)) (fun b u z => ?_) (fun b z => ?_) fun _ => hk
    · by_cases hb : b = a
      · exact .inr ⟨_, _, if_pos hb⟩
      · exact .inl (if_neg hb)
    · by_cases hb : b = a
      · cases (if_pos hb).symm.trans z
        subst hb
        refine ⟨ha, ?_, vs, _, rv, ha⟩
        rw [List.length_map]
        exact hl
      · cases (if_neg hb).symm.trans z
    · by_cases hb : b = a
      · exact hb
      · exact absurd (if_neg hb) z
theorem walk_ofG {l : PySem.W.OpenLaw} {n k : Nat} {q : Program} {loose : List PySem.Str} {XP : (PySem.Str → Option Value) → Heap → Prop} {YP : World → Heap → Prop} {d : DefRec}
    (hn : l.most = some n) (hn2 : n ≤ sizeLine) (hdf : d.params.defaults = []) (hr : Room k callerA)
    (F : ∀ (w : World) (mg : PySem.Str → Option Value) (fa : Addr) (h : Heap), YP w h → h.Ns mainGlobals mg → mg d.name = some (.ref fa) →
      ∃ (K : PySem.W.Frag) (sp : Sp), K.In h ∧ (∀ (H : Hp) (a : Addr) (ns : List Int), ns.length ≤ n → Only H → SqL K H a (ns.map V.int) →
          sp [.ref a] H (fun v _ => v = .bl true) fun _ _ _ => False) ∧ ∀ base : Heap, K.In base → base.Ns mainGlobals mg → FnG l.prog w K mg base CX0 k fa sp) :
    PySem.W.WalkO q loose XP YP l.row.toRowW d [] (fun f vs => PySem.call f vs) := by
  refine Att.attach_call hn hdf fun w s₀ s₁ mg mb fa o pm cd doc a vs ns G Y ho hd hcd hmg hobj hints hlen hg => ?_
  obtain ⟨K, sp, KX, hsp, hF⟩ := F w mg fa _ Y G.T.g hmg
  exact law_callG KX G.T.g G.T.b G.T.builtins G.T.nolimit hg hobj hints (Nat.le_trans hlen hn2) hr hF fun H hO hS => hsp H a ns hlen hO hS
end Ca

set_option maxHeartbeats 4000000
/-! what is read off the top: facts (as Bools of the written part) and defs (found by an address of one's own) -/
namespace Ca
open PySem PySem.Spec PyProof.Rows L2 He
structure DfX where
  at_ : PySem.W.Frag → Addr
  name : PySem.Str
  qual : PySem.Str
  st : Stmt
abbrev DfX.see (d : DfX) (K : PySem.W.Frag) : FnW := match K.lookup (d.at_ K) with
  | some ⟨_, _, .func fd, _⟩ => some (fd.name, fd.qualname, fd.params, fd.body, fd.scope, fd.globals, fd.closure, fd.builtins)
  | _ => none
def DfX.due (d : DfX) : FnW := some (d.name, d.qual, defArgs d.st, .stmts (defBody d.st), defScope d.st, mainGlobals, [], builtinsNs)
def DfX.ok (d : DfX) (K : PySem.W.Frag) : Bool := PySem.W.keepIn K (.ref (d.at_ K)) && (match K.lookup (d.at_ K) with
  | some ⟨_, _, .func fd, _⟩ => PySem.W.codeIn K fd.code d.qual && dflB K fd.defaults []
  | _ => false)
theorem DfX.fun_ {d : DfX} {K : PySem.W.Frag} (e : d.see K = d.due) (c : d.ok K = true) : ∃ fd, FunD K d.name d.qual (defArgs d.st) (defBody d.st) (defScope d.st) [] [] (d.at_ K) fd := by
  obtain ⟨kp, c⟩ := ba c
  unfold DfX.see at e
  cases q : K.lookup (d.at_ K) with
  | none =>
    rw [q] at c
    cases c
  | some o =>
    obtain ⟨oc, od, dt, sl⟩ := o
    rw [q] at c e
    cases dt with
    | func fd =>
      obtain ⟨y1, y2, y3, y4, y5, y6, y7, y8, y9, y10, y11, y12, y13, y14, y15⟩ := fd
      unfold DfX.due at e
      have e1 := Option.some.inj e
      simp only [Prod.mk.injEq] at e1
      obtain ⟨z1, z2, z3, z4, z5, z6, z7, z8⟩ := e1
      subst z1 z2 z3 z4 z5 z6 z7 z8
      obtain ⟨k1, k2⟩ := ba c
      exact ⟨_, ⟨oc, od, y8, y9, y10, y11, y12, y13, y14, sl, rfl, q, k1, dflB_ok k2, .inl rfl⟩, kp⟩
    | _ => cases c
abbrev AlX : Type := Bool × List FnW
def seeX (fs : List (PySem.W.Frag → Bool)) (fn : List DfX) (K : PySem.W.Frag) : AlX := (fs.all (fun f => f K) && fn.all (fun d => d.ok K), fn.map fun d => d.see K)
def dueX (fn : List DfX) : AlX := (true, fn.map DfX.due)
def SaysX (fs : List (PySem.W.Frag → Bool)) (fn : List DfX) (K : PySem.W.Frag) : Prop := seeX fs fn K = dueX fn
def seeG (n : Nat) (fs : List (PySem.W.Frag → Bool)) (fn : List DfX) (g : Addr → Option Obj) : AlX := seeX fs fn (frG g (sysModules :: asD g n))
def hookX (n : Nat) (fs : List (PySem.W.Frag → Bool)) (fn : List DfX) : PySem.W.Hook where
  α := AlX
  obs := fun s => seeG n fs fn s.heap.get?
  val := fun _ => dueX fn
  says := fun _ h => ∃ K : PySem.W.Frag, K.In h ∧ SaysX fs fn K
  of := fun _ _ e => ⟨_, frG_in, e⟩
  keeps := fun _ _ _ ⟨K, hK, c⟩ k => ⟨K, PySem.W.Frag.In.keeps hK k, c⟩
theorem seeG_eq {n : Nat} {fs : List (PySem.W.Frag → Bool)} {fn : List DfX} {g : Addr → Option Obj} {s : Shared} (h : ∀ a, g a = s.heap.get? a) : seeG n fs fn g = (hookX n fs fn).obs s := by
  obtain rfl : g = s.heap.get? := funext h
  rfl
section
variable {fs : List (PySem.W.Frag → Bool)} {fn : List DfX} {K : PySem.W.Frag}
theorem SaysX.fact (c : SaysX fs fn K) (i : Nat) {f : PySem.W.Frag → Bool} (h : fs[i]? = some f := by rfl) : f K = true := by
  have z := congrArg (fun y : AlX => y.1) c
  exact List.all_eq_true.mp (ba z).1 f (List.mem_of_getElem? h)
theorem SaysX.def_ (c : SaysX fs fn K) (i : Nat) {d : DfX} (h : fn[i]? = some d := by rfl) : ∃ fd, FunD K d.name d.qual (defArgs d.st) (defBody d.st) (defScope d.st) [] [] (d.at_ K) fd := by
  have z1 := congrArg (fun y : AlX => y.1) c
  have z2 : fn.map (fun d => d.see K) = fn.map DfX.due := congrArg (fun y : AlX => y.2) c
  have z3 : (fn.map fun d => d.see K)[i]? = (fn.map DfX.due)[i]? := by rw [z2]
  rw [List.getElem?_map, List.getElem?_map, h] at z3
  exact DfX.fun_ (Option.some.inj z3) (List.all_eq_true.mp (ba z1).2 d (List.mem_of_getElem? h))
end
/-- the getter of a property of a class -/
def propG (K : PySem.W.Frag) (p : Addr) : Addr := match PySem.W.recIn K p "property" with
  | some (.ref g :: _) => g
  | _ => 0
def propB (x m : PySem.Str) (K : PySem.W.Frag) : Bool :=
  eqO (PySem.W.findIn K (.ref (ga K x)) m) (some (some (.ref (ma K (ga K x) m)))) && (eqO (PySem.W.specialIn K (.ref (ma K (ga K x) m)) "__get__") (some (some (.builtin "property.__get__"))) &&
    (decide (PySem.W.takesIn K (.ref (ma K (ga K x) m)) = some true) && (match PySem.W.recIn K (ma K (ga K x) m) "property" with
      | some (.ref _ :: _) => true
      | _ => false)))
theorem prop_ok {x m : PySem.Str} {K : PySem.W.Frag} (h : propB x m K = true) : PropOf K (ga K x) m (ma K (ga K x) m) (propG K (ma K (ga K x) m)) := by
  obtain ⟨h1, h⟩ := ba h
  obtain ⟨h2, h⟩ := ba h
  obtain ⟨h3, h4⟩ := ba h
  refine ⟨eqO_ok h1, eqO_ok h2, of_decide_eq_true h3, ?_⟩
  unfold propG
  cases q : PySem.W.recIn K (ma K (ga K x) m) "property" with
  | none =>
    rw [q] at h4
    cases h4
  | some l =>
    rw [q] at h4
    cases l with
    | nil => cases h4
    | cons v l =>
      cases v with
      | ref g => exact ⟨l, rfl⟩
      | _ => cases h4
end Ca

set_option maxHeartbeats 4000000
namespace Ca
open PySem PySem.Spec PyProof.Rows L2 He
/-- a class read by its name, its classmethods -/
def cmP (K : PySem.W.Frag) (x m : PySem.Str) : Addr := match PySem.W.findCls K (.ref (ga K x)) (.type "type") m with
  | some (.get _ (.ref p) _ _) => p
  | _ => 0
def cmG (K : PySem.W.Frag) (x m : PySem.Str) : Addr := match PySem.W.recIn K (cmP K x m) "classmethod" with
  | some (.ref g :: _) => g
  | _ => 0
def cmB (x m : PySem.Str) (K : PySem.W.Frag) : Bool :=
  (match PySem.W.findCls K (.ref (ga K x)) (.type "type") m with
    | some (.get (.builtin s) (.ref _) .none (.ref c)) => decide (s = "classmethod.__get__") && decide (c = ga K x)
    | _ => false) && ((match PySem.W.recIn K (cmP K x m) "classmethod" with
    | some (.ref _ :: _) => true
    | _ => false) && PySem.W.fnIn K (cmG K x m))
theorem cm_ok {x m : PySem.Str} {K : PySem.W.Frag} (h : cmB x m K = true) : ClX.CMet K (ga K x) (.type "type") m (cmP K x m) (cmG K x m) := by
  unfold cmB at h
  obtain ⟨h1, h⟩ := ba h
  obtain ⟨h2, h3⟩ := ba h
  refine ⟨?_, ?_, h3⟩
  · have e : ∃ p, PySem.W.findCls K (.ref (ga K x)) (.type "type") m = some (.get (.builtin "classmethod.__get__") (.ref p) .none (.ref (ga K x))) ∧ cmP K x m = p := by
      unfold cmP
      split at h1
      · rename_i s p c q
        obtain ⟨a1, a2⟩ := ba h1
        have a1 := of_decide_eq_true a1
        have a2 := of_decide_eq_true a2
        subst a1 a2
        exact ⟨p, q, by rw [q]⟩
      · cases h1
    obtain ⟨p, e1, e2⟩ := e
    rw [e2]
    exact e1
  · unfold cmG
    split at h2
    · rename_i g l q
      exact ⟨l, by rw [q]⟩
    · cases h2
def crB (x : PySem.Str) (K : PySem.W.Frag) : Bool := PySem.W.readsIn K (ga K x) (.type "type") && eqO (PySem.W.specialIn K (.ref (ga K x)) "__getattribute__") (some (some (.builtin "type.__getattribute__")))
theorem cr_ok {x : PySem.Str} {K : PySem.W.Frag} (h : crB x K = true) : ClX.CRead K (ga K x) (.type "type") := by
  obtain ⟨h1, h2⟩ := ba h
  exact ⟨h1, eqO_ok h2⟩
def seeY (n : Nat) (fs : List (PySem.W.Frag → Bool)) (fn : List DfX) (g : Addr → Option Obj) : AlX := seeX fs fn (frG g (cStatics :: sysModules :: asD g n))
def hookY (n : Nat) (fs : List (PySem.W.Frag → Bool)) (fn : List DfX) : PySem.W.Hook where
  α := AlX
  obs := fun s => seeY n fs fn s.heap.get?
  val := fun _ => dueX fn
  says := fun _ h => ∃ K : PySem.W.Frag, K.In h ∧ SaysX fs fn K
  of := fun _ _ e => ⟨_, frG_in, e⟩
  keeps := fun _ _ _ ⟨K, hK, c⟩ k => ⟨K, PySem.W.Frag.In.keeps hK k, c⟩
theorem seeY_eq {n : Nat} {fs : List (PySem.W.Frag → Bool)} {fn : List DfX} {g : Addr → Option Obj} {s : Shared} (h : ∀ a, g a = s.heap.get? a) : seeY n fs fn g = (hookY n fs fn).obs s := by
  obtain rfl : g = s.heap.get? := funext h
  rfl
end Ca

set_option maxHeartbeats 4000000
/-! a set comprehension of two clauses whose elements are ints -/
namespace Ca
open PySem PySem.Spec PyProof.Rows L2

abbrev sc2 (elt a0 b0 a1 b1 : Expr) (c0 c1 : List Expr) (scope : Scope) (pos : Pos) : Expr :=
  .SetComp elt [⟨a0, b0, c0, 0⟩, ⟨a1, b1, c1, 0⟩] scope pos
section
variable {prog : Program} {w : World} {A : Around} {R : Result → Shared → Prop} {s : Shared} {elt a0 b0 a1 b1 : Expr} {c0 c1 : List Expr}
  {scope : Scope} {pos : Pos} {it acc : Value} {env : Env}
abbrev Tst (M : Model) (A : Around) (env : Env) (cs : List Expr) (Q : Bool → Shared → Prop) (E : Value → Shared → Prop) (s : Shared) : Prop :=
  wpAny M A (forIn cs true fun c r => if r = true then do
      let ok ← isTrue c env (eval c env)
      pure (ForInStep.yield ok) else pure (ForInStep.yield r)) Q E s
theorem turn_outer : compTurn (sc2 elt a0 b0 a1 b1 c0 c1 scope pos) 0 it acc env = (do
      standAt b0.pos
      match ← pyNext it with
      | none => pure (.done .next)
      | some u =>
        letOwnedTupleGo a0 it u
        assign a0 env u
        let mut ok := true
        for c in c0 do
          if ok then ok ← isTrue c env (eval c env)
        if ok then
          let y ← eval b1 env
          standAt b1.pos
          let y ← foldedSetIterable b1 env y
          let _ ← runOwn (.compStart (sc2 elt a0 b0 a1 b1 c0 c1 scope pos) 1 (← holding [y] (pyIter y)) acc env) env
        again (.compLoop (sc2 elt a0 b0 a1 b1 c0 c1 scope pos) 0 it acc env)) := by rfl
theorem turn_inner : compTurn (sc2 elt a0 b0 a1 b1 c0 c1 scope pos) 1 it acc env = (do
      standAt b1.pos
      match ← pyNext it with
      | none => pure (.done .next)
      | some u =>
        letOwnedTupleGo a1 it u
        assign a1 env u
        let mut ok := true
        for c in c1 do
          if ok then ok ← isTrue c env (eval c env)
        if ok then
          (do let y ← eval elt env; standAt elt.pos; let _ ← call (.builtin "set.add") [acc, y])
        again (.compLoop (sc2 elt a0 b0 a1 b1 c0 c1 scope pos) 1 it acc env)) := by rfl
abbrev Nt (prog : Program) (w : World) (A : Around) (env : Env) (R : Result → Shared → Prop) : Value → Shared → Prop :=
  notedBy (model prog w) A env fun x s' => R (.error x) s'
theorem loop_outer (fs : ∀ x, foldedSetIterable b1 env x = pure x) (J : Nat → Shared → Prop)
    (turn : ∀ n s, J n s → wpAny (model prog w) A (pyNext it) (fun r s₁ => match r with
      | none => R (.ok .next) s₁
      | some u => wpAny (model prog w) A (letOwnedTupleGo a0 it u) (fun _ s₂ => wpAny (model prog w) A (assign a0 env u) (fun _ s₃ =>
          Tst (model prog w) A env c0 (fun ok s₄ => if ok = true then wpAny (model prog w) A (eval b1 env) (fun x s₅ =>
            wpAny (model prog w) A (pyIter x) (fun z s₆ => codeAny (model prog w) A (.compStart (sc2 elt a0 b0 a1 b1 c0 c1 scope pos) 1 z acc env)
              (fun r s' => match r with
                | .ok _ => ∃ m, m < n ∧ J m s'
                | .error _ => False) s₆) (Nt prog w A env R) s₅) (Nt prog w A env R) s₄
            else ∃ m, m < n ∧ J m s₄) (Nt prog w A env R) s₃) (Nt prog w A env R) s₂) (Nt prog w A env R) s₁) (Nt prog w A env R) s)
    (n : Nat) (h : J n s) : codeAny (model prog w) A (.compLoop (sc2 elt a0 b0 a1 b1 c0 c1 scope pos) 0 it acc env) R s := by
  refine codeAny_loop rfl J (fun n s hJ => ?_) n h
  show wpAny _ A ((compTurn (sc2 elt a0 b0 a1 b1 c0 c1 scope pos) 0 it acc env).onRaise (fun x => do noteFrame x env; theTreesLotGoes x)) _ _ s
  refine wpAny_noted ?_
  rw [turn_outer]
  refine wpAny_bind (wpAny_standAt (wpAny_bind (wpAny_mono (turn n s hJ) (fun r s₁ k₁ => ?_) fun _ _ z => z)))
  cases r with
  | none => exact wpAny_pure k₁
  | some u =>
    refine wpAny_bind (wpAny_mono k₁ (fun _ s₂ k₂ => ?_) fun _ _ z => z)
    refine wpAny_bind (wpAny_mono k₂ (fun _ s₃ k₃ => ?_) fun _ _ z => z)
    refine wpAny_bind (wpAny_mono k₃ (fun ok s₄ k₄ => ?_) fun _ _ z => z)
    cases ok with
    | false => exact wpAny_pure ⟨rfl, k₄⟩
    | true =>
      refine wpAny_bind (wpAny_mono k₄ (fun x s₅ k₅ => ?_) fun _ _ z => z)
      refine wpAny_bind (wpAny_standAt (wpAny_bind (wpAny_of_eq (fs x) (wpAny_bind (wpAny_holding (wpAny_mono k₅ (fun z s₆ k₆ => ?_) fun _ _ z => z))))))
      refine wpAny_bind (wpAny_runOwn ?_)
      rw [Around.mark_none]
      refine codeAny_mono k₆ fun r s' hr => ?_
      cases r with
      | error e => exact hr.elim
      | ok f => first | exact wpAny_pure ⟨rfl, hr⟩ | exact wpAny_bind (wpAny_pure (wpAny_pure ⟨rfl, hr⟩))
theorem loop_inner (J : Nat → Shared → Prop)
    (turn : ∀ n s, J n s → wpAny (model prog w) A (pyNext it) (fun r s₁ => match r with
      | none => R (.ok .next) s₁
      | some u => wpAny (model prog w) A (letOwnedTupleGo a1 it u) (fun _ s₂ => wpAny (model prog w) A (assign a1 env u) (fun _ s₃ =>
          Tst (model prog w) A env c1 (fun ok s₄ => if ok = true then wpAny (model prog w) A (eval elt env) (fun x s₅ =>
              wpAny (model prog w) A (call (.builtin "set.add") [acc, x]) (fun _ s₆ => ∃ m, m < n ∧ J m s₆) (Nt prog w A env R) s₅) (Nt prog w A env R) s₄
            else ∃ m, m < n ∧ J m s₄) (Nt prog w A env R) s₃) (Nt prog w A env R) s₂) (Nt prog w A env R) s₁) (Nt prog w A env R) s)
    (n : Nat) (h : J n s) : codeAny (model prog w) A (.compLoop (sc2 elt a0 b0 a1 b1 c0 c1 scope pos) 1 it acc env) R s := by
  refine codeAny_loop rfl J (fun n s hJ => ?_) n h
  show wpAny _ A ((compTurn (sc2 elt a0 b0 a1 b1 c0 c1 scope pos) 1 it acc env).onRaise (fun x => do noteFrame x env; theTreesLotGoes x)) _ _ s
  refine wpAny_noted ?_
  rw [turn_inner]
  refine wpAny_bind (wpAny_standAt (wpAny_bind (wpAny_mono (turn n s hJ) (fun r s₁ k₁ => ?_) fun _ _ z => z)))
  cases r with
  | none => exact wpAny_pure k₁
  | some u =>
    refine wpAny_bind (wpAny_mono k₁ (fun _ s₂ k₂ => ?_) fun _ _ z => z)
    refine wpAny_bind (wpAny_mono k₂ (fun _ s₃ k₃ => ?_) fun _ _ z => z)
    refine wpAny_bind (wpAny_mono k₃ (fun ok s₄ k₄ => ?_) fun _ _ z => z)
    cases ok with
    | false => exact wpAny_pure ⟨rfl, k₄⟩
    | true =>
      refine wpAny_bind (wpAny_bind (wpAny_mono k₄ (fun x s₅ k₅ => ?_) fun _ _ z => z))
      exact wpAny_bind (wpAny_standAt (wpAny_bind (wpAny_mono k₅ (fun _ s₆ k₆ => wpAny_pure (wpAny_pure ⟨rfl, k₆⟩)) fun _ _ z => z)))
theorem start_inner (h0 : codeAny (model prog w) A (.compLoop (sc2 elt a0 b0 a1 b1 c0 c1 scope pos) 1 it acc env) R s)
    (h : wpAny (model prog w) A (pyIter it) (fun z s' => codeAny (model prog w) A (.compLoop (sc2 elt a0 b0 a1 b1 c0 c1 scope pos) 1 z acc env) R s') (Nt prog w A env R) s) :
    codeAny (model prog w) A (.compStart (sc2 elt a0 b0 a1 b1 c0 c1 scope pos) 1 it acc env) R s := by
  refine codeAny_of_tree ?_
  show wpAny _ _ ((compStart (sc2 elt a0 b0 a1 b1 c0 c1 scope pos) 1 it acc env).onRaise (fun x => do noteFrame x env; standAt theWindowsPlace)) _ _ s
  refine wpAny_notedAt ?_
  unfold compStart
  show wpAny _ _ (ask >>= _) _ _ s
  refine wpAny_bind (wpAny_askSetting (wpAny_ite ?_))
  split
  · first | exact wpAny_bind (wpAny_pure (wpAny_pure (And.intro rfl h0))) | exact wpAny_pure (And.intro rfl h0)
  · refine wpAny_bind (wpAny_rule ?_)
    show wpAny _ _ (standAt b1.pos >>= _) _ _ s
    exact wpAny_bind (wpAny_standAt (wpAny_bind (wpAny_mono h (fun z s' k => wpAny_pure (And.intro rfl k)) fun _ _ x => x)))
end
end Ca

set_option maxHeartbeats 4000000
namespace Ca
open PySem PySem.Spec PyProof.Rows L2
/-- one more int in a set -/
def more (S : Int → Bool) (k : Int) : Int → Bool := fun j => S j || decide (j = k)
def cntS (S : Int → Bool) (n : Nat) (k : Int) : Nat := if S k = true then n else n + 1
section
variable {X : Cx}
/-- {elt for .. in .. for .. in ..}: D the new set of ints; vs all names of the block, us those of the second target -/
def tSc2 (w : World) (wi : TI) (g : TG) (tt : TT) (wj : TI) (g1 : TG) (tt1 : TT) (te : TE) (vs us : List Nat) : TE := fun σ H Q =>
  wi σ H fun J H1 => ∀ D, H1 D = none → ∃ W : Nat → Nat → Hp → Prop, (∃ m, W 0 m (upd H1 D (SetO w D (fun _ => false) 0))) ∧ ∀ i m H, W i m H →
    (J.stop i H ∧ Q (.ref D) H) ∨ (J.go i H ∧ ∃ Nx : Hp → Prop, (∀ H', Nx H' → ∃ m', m' < m ∧ W (i + 1) m' H') ∧
      ∀ x H', J.yld i H x H' → g x (wipe σ vs) H' fun σ2 H2 => wipe σ2 vs = wipe σ vs ∧ tt σ2 H2 fun b H3 =>
        if b = true then wj σ2 H3 fun J1 H4 => ∃ W1 : Nat → Nat → Hp → Prop, (∃ m, W1 0 m H4) ∧ ∀ j k H, W1 j k H →
          (J1.stop j H ∧ Nx H) ∨ (J1.go j H ∧ ∃ Nx1 : Hp → Prop, (∀ H', Nx1 H' → ∃ k', k' < k ∧ W1 (j + 1) k' H') ∧
            ∀ x H', J1.yld j H x H' → g1 x (wipe σ2 us) H' fun σ3 H5 => wipe σ3 us = wipe σ2 us ∧ tt1 σ3 H5 fun b H6 =>
              if b = true then te σ3 H6 fun y H7 => ∃ (k : Int) (S : Int → Bool) (n : Nat), y = .int k ∧ H7 D = some (SetO w D S n) ∧ n + 1 < scanBound ∧
                Nx1 (upd H7 D (SetO w D (more S k) (cntS S n k))) else Nx1 H6)
        else Nx H3)
/-- set.add of an int, as a raw call -/
theorem add_int {pins : List (Addr × Obj)} {σ : L2.St} {H : Hp} {s : Shared} {E : Value → Shared → Prop} {D : Addr} {S : Int → Bool} {n : Nat} {k : Int} {u : Value}
    {Q : Value → Shared → Prop} (I : Inv X pins σ H s) (hD : H D = some (SetO X.w D S n)) (room : n + 1 < scanBound) (ru : RelV (.int k) u)
    (h : ∀ s', Inv X pins σ (upd H D (SetO X.w D (more S k) (cntS S n k))) s' → Q .none s') : wpAny (model X.prog X.w) X.A (call (.builtin "set.add") [.ref D, u]) Q E s := by
  obtain ⟨tk, rfl⟩ := ru
  refine setR_add (setO_get I hD) room fun h' sb new => ?_
  have ex : ∃ u, h'.get? D = some u := by
    have ⟨o, _, _, _, ho, _⟩ := new
    exact ⟨o, ho⟩
  refine h _ (I.write (e := D) (t' := s.toks + 1) (by rw [hD]; trivial) (.inl rfl) (fun b u hb hu => ?_) ex (setO_new new))
  exact (sb.2 b hb).trans hu
abbrev eSet (w : World) : Obj := { cls := .type "set", dict := none, data := .set #[] 0 (.fresh 0 0 (!w.params.followText "set-order")) }
theorem pe_sc2 {elt a0 b0 a1 b1 : Expr} {c0 c1 : List Expr} {scope : Scope} {own : List (PySem.Str × Nat)} {us : List Nat} {pos : Pos} {wi wj : TI} {g g1 : TG} {tt tt1 : TT} {te : TE}
    (hc : X.calm = true) (hN : X.N.Nodup) (hi : PI X a0 b0 wi) (ok : BlkOk X.N X.env.scope scope own) (hv : ∀ i ∈ us, i ∈ own.map (·.2))
    (hg : ∀ (s : Shared) (H : Hp) (C : Addr) (cl : List (PySem.Str × Addr)) (fq : List Addr), PG (X.blk s H scope (compEnvC scope cl C X.env) fq) a0 g) (ht : ∀ (s : Shared) (H : Hp) (C : Addr) (cl : List (PySem.Str × Addr)) (fq : List Addr), PTs (X.blk s H scope (compEnvC scope cl C X.env) fq) c0 tt) (hj : ∀ (s : Shared) (H : Hp) (C : Addr) (cl : List (PySem.Str × Addr)) (fq : List Addr), PI (X.blk s H scope (compEnvC scope cl C X.env) fq) a1 b1 wj) (hg1 : ∀ (s : Shared) (H : Hp) (C : Addr) (cl : List (PySem.Str × Addr)) (fq : List Addr), PG (X.blk s H scope (compEnvC scope cl C X.env) fq) a1 g1)
    (ht1 : ∀ (s : Shared) (H : Hp) (C : Addr) (cl : List (PySem.Str × Addr)) (fq : List Addr), PTs (X.blk s H scope (compEnvC scope cl C X.env) fq) c1 tt1) (he : ∀ (s : Shared) (H : Hp) (C : Addr) (cl : List (PySem.Str × Addr)) (fq : List Addr), PE (X.blk s H scope (compEnvC scope cl C X.env) fq) elt te) (f0 : ∀ x, foldedSetIterable b0 X.env x = pure x := by intro _; rfl)
    (f1 : ∀ env x, foldedSetIterable b1 env x = pure x := by intro _ _; rfl) :
    PE X (sc2 elt a0 b0 a1 b1 c0 c1 scope pos) (tSc2 X.w wi g tt wj g1 tt1 te (own.map (·.2)) us) := by
  refine ⟨fun pins s σ H Q I h => ?_⟩
  rw [PpSet.eval_SetComp]
  have free : ∀ y ∈ scope.names, y.2 = .free → ∃ c, X.env.cells.lookup y.1 = some c := fun y hy e =>
    (ok.free y hy e).elim (fun k => I.ok.has _ (.inl k)) (fun k => I.ok.has _ (.inr k))
  refine wpAny_comprehension_free (use := none) rfl f0 (closure_ok free) ok.kind (fun y hy e => by rw [ok.uniq y hy, e]) ?_
  refine thn (hi.run pins s σ H _ I h) fun xv s1 hx => thn hx fun itv s2 h2 => ?_
  obtain ⟨it, fp, tn, J, H2, rfl, I2, T, st2, fpo, q⟩ := h2
  refine PpSet.newSet_ok (newEnv_comp ?_)
  generalize hD : s2.heap.objs.size = D
  obtain ⟨W, ⟨m0, w0⟩, turn⟩ := q D (I2.hok.fresh (Nat.le_of_eq hD))
  generalize hs3 : ({ s2 with heap := s2.heap.push (eSet X.w) } : Shared) = s3
  have e3 : s3.heap = s2.heap.push (eSet X.w) := by rw [← hs3]
  have I3 : Inv X pins σ (upd H2 D (SetO X.w D (fun _ => false) 0)) s3 := by
    subst hs3 hD
    exact I2.laid (t' := s2.toks) (fun b o e => Heap.get?_push_of_some _ e) (Nat.le_refl _) (setO_new (setR_fresh X.w))
  have low : ∀ b ∈ fp, b < s2.heap.objs.size := fun b hb =>
    let ⟨_, e, _⟩ := T.obj _ _ st2 b hb
    Heap.lt_size e
  have fpo3 : ∀ b ∈ fp, FpOk X pins (upd H2 D (SetO X.w D (fun _ => false) 0)) b ∧ b < s3.heap.objs.size := fun b hb => by
    have lt := low b hb
    refine ⟨⟨?_, (fpo b hb).2⟩, by rw [e3, Heap.size_push]; exact Nat.lt_succ_of_lt lt⟩
    rw [upd_ne (by subst hD; exact Nat.ne_of_lt lt)]
    exact (fpo b hb).1
  have st3 : tn 0 s3.heap := T.keep _ _ _ st2 fun b _ o e => by rw [e3]; exact Heap.get?_push_of_some _ e
  have I4 := block_start I3 ok hN fpo3
  generalize hcl : cellsFrom (s3.heap.objs.size + 1) scope.names (cloFrom X.env.cells scope.names []) = cl at I4 ⊢
  have qg := hg s3 (upd H2 D (SetO X.w D (fun _ => false) 0)) s3.heap.objs.size cl fp
  have qt := ht s3 (upd H2 D (SetO X.w D (fun _ => false) 0)) s3.heap.objs.size cl fp
  have qj := hj s3 (upd H2 D (SetO X.w D (fun _ => false) 0)) s3.heap.objs.size cl fp
  have qg1 := hg1 s3 (upd H2 D (SetO X.w D (fun _ => false) 0)) s3.heap.objs.size cl fp
  have qt1 := ht1 s3 (upd H2 D (SetO X.w D (fun _ => false) 0)) s3.heap.objs.size cl fp
  have qe := he s3 (upd H2 D (SetO X.w D (fun _ => false) 0)) s3.heap.objs.size cl fp
  have non3 : ∀ b ∈ fp, (upd H2 D (SetO X.w D (fun _ => false) 0)) b = none := fun b hb => (fpo3 b hb).1.1
  show codeAny _ _ (.compStart (sc2 elt a0 b0 a1 b1 c0 c1 scope pos) 0 (.ref it) (.ref D) (compEnvC scope cl s3.heap.objs.size X.env)) (compPost (model X.prog X.w) X.A X.xe none _ (.ref D) s3.heap.objs.size)
    { s3 with heap := pushCells (s3.heap.push { cls := .type "dict", data := .dict #[] }) scope.names }
  generalize hce : compEnvC scope cl s3.heap.objs.size X.env = ce at I4 qg qt qj qg1 qt1 qe ⊢
  have loc : ce.locals = s3.heap.objs.size := by subst hce; rfl
  generalize hH3 : upd H2 D (SetO X.w D (fun _ => false) 0) = H3 at I3 I4 qg qt qj qg1 qt1 qe w0 non3 fpo3
  generalize hs4 : ({ s3 with heap := pushCells (s3.heap.push { cls := .type "dict", data := .dict #[] }) scope.names } : Shared) = s4 at I4 ⊢
  have st4 : tn 0 s4.heap := T.keep _ _ _ st3 fun b _ o e => by
    subst hs4
    exact pushCells_keeps _ _ _ _ (Heap.get?_push_of_some _ e)
  let Y : Cx := X.blk s3 H3 scope ce fp
  have okFp : ∀ {σ' : L2.St} {H' : Hp} {s' : Shared}, Inv Y [] σ' H' s' → (∀ b ∈ fp, H' b = none) → ∀ b ∈ fp, FpOk Y [] H' b := fun {σ' H' s'} K hn b hb =>
    ⟨hn b hb, (K.ok.exf b hb).1, K.ok.exfs b hb, .inl hb, fun x c e => (K.ok.exf b hb).2 x c e,
      fun p hp => absurd (show p ∈ ([] : List (Addr × Obj)) ++ [] from hp) (by simp)⟩
  generalize hvs : own.map (·.2) = vs at turn hv I4
  have loop : codeAny (model X.prog X.w) X.A (.compLoop (sc2 elt a0 b0 a1 b1 c0 c1 scope pos) 0 (.ref it) (.ref D) ce)
      (compPost (model X.prog X.w) X.A X.xe none (EP X pins σ Q) (.ref D) s3.heap.objs.size) s4 := by
    refine loop_outer (f1 ce) (fun n s' => ∃ i H', Inv Y [] (wipe σ vs) H' s' ∧ tn i s'.heap ∧ (∀ b ∈ fp, H' b = none) ∧ W i n H') ?_ m0 ⟨0, H3, I4, st4, non3, w0⟩
    rintro n s5 ⟨i, H5, I5, st5, n5, w5⟩
    rcases turn i n H5 w5 with ⟨stop, fin⟩ | ⟨go, Nx, hNx, step⟩
    · refine thnF (T.done Y rfl rfl rfl hc i [] s5 _ H5 (fun _ _ => False) I5 (okFp I5 n5) st5 stop) fun r s6 ⟨hr, I6⟩ => ?_
      subst hr
      have I7 : Inv X pins σ H5 s6 := I3.call' (ch := fp) I6.os I6.base I6.hok I6.bare fun b hb =>
        ⟨(fpo3 b hb).1.2.2.2.1, (fpo3 b hb).1.2.1, (fpo3 b hb).1.2.2.2.2.1, (fpo3 b hb).1.2.2.2.2.2⟩
      have nC : H5 s3.heap.objs.size = none := by
        have z : H5 ce.locals = none := I6.free
        rwa [loc] at z
      obtain ⟨m, hm, _⟩ := I6.loc
      have hm : s6.heap.Ns ce.locals m := hm
      rw [loc] at hm
      obtain ⟨z0, z1, z2, z3, z4, z5⟩ := I3.fpOk (Nat.le_refl _) nC
      refine ⟨m, hm, fun h'' sb => ⟨.ref D, H5, I7.turned (t' := s6.toks) (fun b o hb e => ?_) z0 z1 z3 z4 z5, rfl, fin⟩⟩
      exact (sb.2 b hb).trans e
    · refine thnF (T.item Y rfl rfl rfl hc i [] s5 _ H5 (fun _ _ => False) I5 (okFp I5 n5) st5 go) fun r s6 ⟨u, hr, h6⟩ => ?_
      subst hr
      refine thnF h6 fun _ s7 ⟨x, H7, I7, r7, y7, st7, n7⟩ => ?_
      refine thnF (qg.run _ s7 _ H7 x u _ (I7.pinned (okFp I7 n7) (T.obj _ _ st7)) r7 (step x H7 y7)) fun _ s8 ⟨σ8, H8, I8, w8, q8⟩ => ?_
      refine thnF (qt.run _ s8 σ8 H8 _ I8 q8) fun b s9 ⟨H9, I9, q9⟩ => ?_
      have close : ∀ {τ : L2.St} {s' : Shared} {H' : Hp}, Inv Y ([] ++ pinsAt fp s7.heap) τ H' s' → (wipe σ vs).length = τ.length →
          (∀ (j : Nat) v, (wipe σ vs)[j]? = some (some v) → τ[j]? = some (some v)) → Nx H' →
          ∃ m, m < n ∧ ∃ i H', Inv Y [] (wipe σ vs) H' s' ∧ tn i s'.heap ∧ (∀ b ∈ fp, H' b = none) ∧ W i m H' := fun {τ s' H'} K hl hk nx => by
        obtain ⟨m', hm, w'⟩ := hNx H' nx
        have held : ∀ b ∈ fp, ∀ o, s7.heap.get? b = some o → s'.heap.get? b = some o ∧ H' b = none := fun b hb o e =>
          let z := K.pin (b, o) (List.mem_append_right _ (List.mem_append_right _ (mem_pinsAt hb e)))
          ⟨z.1, z.2.1⟩
        refine ⟨m', hm, i + 1, H', (K.unpinned (pins := [])).weak hl hk, T.keep _ _ _ st7 fun b hb o e => (held b hb o e).1, fun b hb => ?_, w'⟩
        obtain ⟨o, e, _⟩ := T.obj _ _ st7 b hb
        exact (held b hb o e).2
      have l8 : (wipe σ vs).length = σ8.length := by rw [← w8, wipe_length]
      have k8 : ∀ (j : Nat) v, (wipe σ vs)[j]? = some (some v) → σ8[j]? = some (some v) := fun j v e => by
        rw [← w8] at e
        exact (wipe_some e).1
      have k9 : ∀ (j : Nat) v, (wipe σ vs)[j]? = some (some v) → (wipe σ8 us)[j]? = some (some v) := fun j v e => by
        rw [← w8] at e
        obtain ⟨z1, z2⟩ := wipe_some e
        rw [wipe_out fun z => z2 (hv j z)]
        exact z1
      cases b with
      | false =>
        simp only [Bool.false_eq_true, if_false] at q9 ⊢
        exact close I9 l8 k8 q9
      | true =>
        simp only [if_true] at q9 ⊢
        refine thnF (qj.run _ s9 σ8 H9 _ I9 q9) fun xv s10 hx => thnF hx fun itv s11 h11 => ?_
        obtain ⟨it1, fq, tm, J1, H11, rfl, I11, T1, st11, fqo, W1, ⟨m1, w1⟩, turn1⟩ := h11
        have okFq : ∀ {H' : Hp}, (∀ b ∈ fq, H' b = none) → ∀ b ∈ fq, FpOk Y ([] ++ pinsAt fp s7.heap) H' b := fun hn b hb => ⟨hn b hb, (fqo b hb).2⟩
        have loop1 : codeAny (model X.prog X.w) X.A (.compLoop (sc2 elt a0 b0 a1 b1 c0 c1 scope pos) 1 (.ref it1) (.ref D) ce) (fun r s' => match r with
              | .ok _ => ∃ m, m < n ∧ ∃ i H', Inv Y [] (wipe σ vs) H' s' ∧ tn i s'.heap ∧ (∀ b ∈ fp, H' b = none) ∧ W i m H'
              | .error _ => False) s11 := by
          refine loop_inner (fun k s' => ∃ j H', Inv Y ([] ++ pinsAt fp s7.heap) (wipe σ8 us) H' s' ∧ tm j s'.heap ∧ (∀ b ∈ fq, H' b = none) ∧ W1 j k H') ?_ m1
            ⟨0, H11, I11.weak (wipe_length _ _) (fun j v e => (wipe_some e).1), st11, fun b hb => (fqo b hb).1, w1⟩
          rintro k s12 ⟨j, H12, I12, st12, n12, w12⟩
          rcases turn1 j k H12 w12 with ⟨stop1, nx1⟩ | ⟨go1, Nx1, hNx1, step1⟩
          · refine thnF (T1.done Y rfl rfl rfl hc j _ s12 (wipe σ8 us) H12 (fun _ _ => False) I12 (okFq n12) st12 stop1) fun r s13 ⟨hr, I13⟩ => ?_
            subst hr
            exact close I13 (l8.trans (wipe_length σ8 us).symm) k9 nx1
          · refine thnF (T1.item Y rfl rfl rfl hc j _ s12 (wipe σ8 us) H12 (fun _ _ => False) I12 (okFq n12) st12 go1) fun r s13 ⟨u1, hr, h13⟩ => ?_
            subst hr
            refine thnF h13 fun _ s14 ⟨x1, H14, I14, r14, y14, st14, n14⟩ => ?_
            refine thnF (qg1.run _ s14 (wipe σ8 us) H14 x1 u1 _ (I14.pinned (okFq n14) (T1.obj _ _ st14)) r14 (step1 x1 H14 y14)) fun _ s15 ⟨τ, H15, I15, w15, q15⟩ => ?_
            refine thnF (qt1.run _ s15 τ H15 _ I15 q15) fun b1 s16 ⟨H16, I16, q16⟩ => ?_
            have close1 : ∀ {s' : Shared} {H' : Hp}, Inv Y (([] ++ pinsAt fp s7.heap) ++ pinsAt fq s14.heap) τ H' s' → Nx1 H' →
                ∃ m, m < k ∧ ∃ j H', Inv Y ([] ++ pinsAt fp s7.heap) (wipe σ8 us) H' s' ∧ tm j s'.heap ∧ (∀ b ∈ fq, H' b = none) ∧ W1 j m H' := fun {s' H'} K nx => by
              obtain ⟨m', hm, w'⟩ := hNx1 H' nx
              have held : ∀ b ∈ fq, ∀ o, s14.heap.get? b = some o → s'.heap.get? b = some o ∧ H' b = none := fun b hb o e =>
                let z := K.pin (b, o) (List.mem_append_right _ (List.mem_append_right _ (mem_pinsAt hb e)))
                ⟨z.1, z.2.1⟩
              refine ⟨m', hm, j + 1, H', K.unpinned.weak (by rw [← w15, wipe_length]) (fun j v e => ?_), T1.keep _ _ _ st14 fun b hb o e => (held b hb o e).1, fun b hb => ?_, w'⟩
              · rw [← w15] at e
                exact (wipe_some e).1
              · obtain ⟨o, e, _⟩ := T1.obj _ _ st14 b hb
                exact (held b hb o e).2
            cases b1 with
            | false =>
              simp only [Bool.false_eq_true, if_false] at q16 ⊢
              exact close1 I16 q16
            | true =>
              simp only [if_true] at q16 ⊢
              refine thnF (qe.run _ s16 τ H16 _ I16 q16) fun z s17 ⟨yv, H17, I17, r17, k0, S0, n0, ey, d17, room, nx⟩ => ?_
              subst ey
              exact add_int (X := Y) I17 d17 room r17 fun s18 I18 => close1 I18 nx
        exact start_inner loop1 (T1.self X.A 0 _ _ _ st11 loop1)
  exact PpSet.codeAny_compStart_set loop (T.self X.A 0 _ _ _ st4 loop)
end
end Ca

set_option maxHeartbeats 4000000
/-! values that read as data, and rules over them -/
namespace Ca
open PySem PySem.Spec PyProof.Rows L2
mutual
/-- v reads as d off the tracked objects -/
inductive Rp (H : Hp) : V → PyData → Prop
  | non : Rp H .non .none
  | bl (b : Bool) : Rp H (.bl b) (.bool b)
  | int (i : Int) : Rp H (.int i) (.int i)
  | str (x : PySem.Str) : Rp H (.str x) (.str x)
  | lst {a : Addr} {xs : List V} {ds : List PyData} (h : H a = some (.lst xs)) (r : RpA H xs ds) : Rp H (.ref a) (.list ds)
  | tup {a : Addr} {xs : List V} {ds : List PyData} (h : H a = some (.tup xs)) (r : RpA H xs ds) : Rp H (.ref a) (.tuple ds)
  | dic {a : Addr} (h : H a = some (.dK [])) : Rp H (.ref a) (.dict [])
inductive RpA (H : Hp) : List V → List PyData → Prop
  | nil : RpA H [] []
  | cons {v : V} {vs : List V} {d : PyData} {ds : List PyData} (h : Rp H v d) (r : RpA H vs ds) : RpA H (v :: vs) (d :: ds)
end
section
variable {H H' : Hp}
mutual
theorem Rp.mono (e : Same H H') : ∀ {d : PyData} {v : V}, Rp H v d → Rp H' v d
  | _, _, .non => .non
  | _, _, .bl b => .bl b
  | _, _, .int i => .int i
  | _, _, .str x => .str x
  | _, _, .lst h r => .lst (e _ _ h) (RpA.mono e r)
  | _, _, .tup h r => .tup (e _ _ h) (RpA.mono e r)
  | _, _, .dic h => .dic (e _ _ h)
theorem RpA.mono (e : Same H H') : ∀ {ds : List PyData} {vs : List V}, RpA H vs ds → RpA H' vs ds
  | _, _, .nil => .nil
  | _, _, .cons h r => .cons (Rp.mono e h) (RpA.mono e r)
end
theorem RpA.length : ∀ {vs : List V} {ds : List PyData}, RpA H vs ds → vs.length = ds.length
  | _, _, .nil => rfl
  | _, _, .cons _ r => by rw [List.length_cons, List.length_cons, r.length]
theorem RpA.get : ∀ {vs : List V} {ds : List PyData} {i : Nat} {v : V}, RpA H vs ds → vs[i]? = some v → ∃ d, ds[i]? = some d ∧ Rp H v d
  | _, _, _, _, .nil, e => by simp at e
  | _, _, 0, v, .cons h _, e => by
    cases (show some _ = some v from e)
    exact ⟨_, rfl, h⟩
  | _, _, i + 1, v, .cons _ r, e => by
    obtain ⟨d, h1, h2⟩ := RpA.get (i := i) r (by simpa using e)
    exact ⟨d, by simpa using h1, h2⟩
theorem RpA.at : ∀ {vs : List V} {ds : List PyData} {i : Nat} {d : PyData}, RpA H vs ds → ds[i]? = some d → ∃ v, vs[i]? = some v ∧ Rp H v d
  | _, _, _, _, .nil, e => by simp at e
  | _, _, 0, d, .cons h _, e => by
    cases (show some _ = some d from e)
    exact ⟨_, rfl, h⟩
  | _, _, i + 1, d, .cons _ r, e => by
    obtain ⟨v, h1, h2⟩ := RpA.at (i := i) r (by simpa using e)
    exact ⟨v, by simpa using h1, h2⟩
theorem RpA.append : ∀ {vs ws : List V} {ds es : List PyData}, RpA H vs ds → RpA H ws es → RpA H (vs ++ ws) (ds ++ es)
  | _, _, _, _, .nil, s => s
  | _, _, _, _, .cons h r, s => .cons h (RpA.append r s)
theorem RpA.take : ∀ {vs : List V} {ds : List PyData} (n : Nat), RpA H vs ds → RpA H (vs.take n) (ds.take n)
  | _, _, 0, _ => .nil
  | _, _, _ + 1, .nil => .nil
  | _, _, n + 1, .cons h r => .cons h (RpA.take n r)
theorem RpA.drop : ∀ {vs : List V} {ds : List PyData} (n : Nat), RpA H vs ds → RpA H (vs.drop n) (ds.drop n)
  | _, _, 0, r => r
  | _, _, _ + 1, .nil => .nil
  | _, _, n + 1, .cons _ r => RpA.drop n r
/-- the class that a datum has -/
def tyD : PyData → String
  | .none => "NoneType"
  | .bool _ => "bool"
  | .int _ => "int"
  | .str _ => "str"
  | .list _ => "list"
  | .tuple _ => "tuple"
  | .dict _ => "dict"
theorem Rp.ty {K : PySem.W.Frag} {v : V} {d : PyData} (h : Rp H v d) : TyX K H v (.type (tyD d)) := by
  cases h with
  | non => exact .base .non
  | bl b => exact .base (.bl b)
  | int i => exact .base (.int i)
  | str x => exact .base (.str x)
  | lst h r => exact .base (.lst h)
  | tup h r => exact .base (.tup h)
  | dic h => exact .base (.dK h)
theorem Rp.isI {v : V} {d : PyData} (h : Rp H v d) {i : Int} (e : d = .int i) : v = .int i := by
  subst e; cases h; rfl
theorem Rp.isS {v : V} {d : PyData} (h : Rp H v d) {x : PySem.Str} (e : d = .str x) : v = .str x := by
  subst e; cases h; rfl
theorem Rp.isB {v : V} {d : PyData} (h : Rp H v d) {b : Bool} (e : d = .bool b) : v = .bl b := by
  subst e; cases h; rfl
end
section
variable {X : Cx} {pins : List (Addr × Obj)} {σ : L2.St} {H : Hp} {s : Shared}
mutual
theorem Rp.reads (I : Inv X pins σ H s) (sm : ∃ o, X.K.lookup sysModules = some o) : ∀ (d : PyData) (v : V) (u : Value), Rp H v d → RelV v u → ∃ as, Reads s.heap u d as ∧ sysModules ∉ as
  | .none, _, _, h, r => by
    cases h
    cases r
    exact ⟨_, Reads.none, by simp⟩
  | .bool b, _, _, h, r => by
    cases h
    cases r
    exact ⟨_, Reads.bool b, by simp⟩
  | .int i, _, _, h, r => by
    cases h
    obtain ⟨t, rfl⟩ := r
    exact ⟨_, Reads.int i t, by simp⟩
  | .str x, _, _, h, r => by
    cases h
    obtain ⟨t, rfl⟩ := r
    exact ⟨_, Reads.str x t, by simp⟩
  | .list ds, _, _, h, r => by
    cases h with
    | @lst a xs _ h q =>
      cases r
      obtain ⟨_, its, n, rv, ho⟩ := (show ObjOk X.prog X.w H s.heap a (.lst xs) from I.hok a _ h)
      obtain ⟨as, hr, hn⟩ := Rp.readsA I sm ds _ its q rv
      refine ⟨_, Reads.list ho rfl rfl (by simpa using hr), fun z => ?_⟩
      rcases List.mem_cons.mp z with z | z
      · obtain ⟨o, e⟩ := sm
        rw [← z, (I.bs sysModules o (I.ok.mod.kin _ _ e)).2] at h
        cases h
      · exact hn z
  | .tuple ds, _, _, h, r => by
    cases h with
    | @tup a xs _ h q =>
      cases r
      obtain ⟨_, its, rv, o, ho, hc, n, hd⟩ := (show ObjOk X.prog X.w H s.heap a (.tup xs) from I.hok a _ h)
      obtain ⟨as, hr, hn⟩ := Rp.readsA I sm ds _ its q rv
      exact ⟨_, Reads.tuple ho hc hd (by simpa using hr), hn⟩
  | .dict kvs, _, _, h, r => by
    cases h with
    | @dic a h =>
      cases r
      obtain ⟨_, hs, vs, kv, o, es, ep, ho, hx, hd, _, hp, _⟩ := (show ObjOk X.prog X.w H s.heap a (.dK []) from I.hok a _ h)
      cases kv
      have ee : es.toList = [] := by
        generalize es.toList = l at hp
        cases l with
        | nil => rfl
        | cons e l => cases hp
      refine ⟨_, Reads.dict (kvs := []) ho hx.1 hd (by rw [ee]; exact .nil) (by rw [ee]; exact .nil), fun z => ?_⟩
      have z2 : sysModules = a := by simpa using z
      rw [z2] at hs
      simp at hs
theorem Rp.readsA (I : Inv X pins σ H s) (sm : ∃ o, X.K.lookup sysModules = some o) : ∀ (ds : List PyData) (vs : List V) (us : List Value), RpA H vs ds → Vals vs us → ∃ as, ReadsAll s.heap us ds as ∧ sysModules ∉ as
  | [], _, _, h, r => by
    cases h
    cases r
    exact ⟨_, .nil, by simp⟩
  | d :: ds, _, _, h, r => by
    cases h with
    | cons h1 h2 =>
      cases r with
      | cons r1 r2 =>
        obtain ⟨as, q1, n1⟩ := Rp.reads I sm d _ _ h1 r1
        obtain ⟨bs, q2, n2⟩ := Rp.readsA I sm ds _ _ h2 r2
        refine ⟨_, .cons q1 q2, fun z => ?_⟩
        rcases List.mem_append.mp z with z | z
        · exact n1 z
        · exact n2 z
end
end
end Ca

set_option maxHeartbeats 4000000
namespace Ca
open PySem PySem.Spec PyProof.Rows L2
mutual
theorem reads_lt {h : Heap} : ∀ {u : Value} {d : PyData} {as : List Addr}, Reads h u d as → ∀ {x : Addr}, x ∈ as → x < h.objs.size
  | _, _, _, .none, x, z => by simp at z
  | _, _, _, .bool _, x, z => by simp at z
  | _, _, _, .int _ _, x, z => by simp at z
  | _, _, _, .str _ _, x, z => by simp at z
  | _, _, _, .list ho _ _ r, x, z => by
    rcases List.mem_cons.mp z with z | z
    · rw [z]
      exact Heap.lt_size ho
    · exact readsA_lt r z
  | _, _, _, .tuple ho _ _ r, x, z => readsA_lt r z
  | _, _, _, .dict ho _ _ r1 r2, x, z => by
    rcases List.mem_append.mp z with z | z
    · rcases List.mem_cons.mp z with z | z
      · rw [z]
        exact Heap.lt_size ho
      · exact readsA_lt r1 z
    · exact readsA_lt r2 z
theorem readsA_lt {h : Heap} : ∀ {us : List Value} {ds : List PyData} {as : List Addr}, ReadsAll h us ds as → ∀ {x : Addr}, x ∈ as → x < h.objs.size
  | _, _, _, .nil, x, z => by simp at z
  | _, _, _, .cons r1 r2, x, z => by
    rcases List.mem_append.mp z with z | z
    · exact reads_lt r1 z
    · exact readsA_lt r2 z
end
section
variable {X : Cx}
/-- repr(x) of data -/
def rRepr : List V → Hp → VK → Prop := fun xs H Q => ∃ x d, xs = [x] ∧ Rp H x d ∧ d.showable = true ∧ d.depth ≤ 60 ∧ d.shown.length ≤ sizeLine ∧ Q (.str d.shown) H
theorem call_repr {k : Nat} (sm : ∃ o, X.K.lookup sysModules = some o) (hg : X.A.guards = some []) (hr : Room k X.A) : CallR X (.builtin "repr") rRepr := by
  intro pins s σ H xs us Q I r h
  obtain ⟨x, d, rfl, rp, hs, hdp, hz, q⟩ := h
  have hu : X.A.units + 64 < cLine := hr.units
  cases r with
  | @cons _ u _ _ r1 rt =>
    cases rt
    obtain ⟨as, rd, hn⟩ := Rp.reads I sm d x u rp r1
    have fin : ∀ (h' : Heap) (tk : Tok) (t2 : Nat), (∀ b o, s.heap.get? b = some o → h'.get? b = some o) → EP X pins σ Q (.str d.shown tk) { s with heap := h', toks := t2 } := fun h' tk t2 k =>
      ⟨.str d.shown, H, I.kept (t' := t2) k, ⟨tk, rfl⟩, q⟩
    cases rp with
    | non =>
      obtain rfl : u = Value.none := r1
      exact P.repr_of_none (fin _ _ _ fun _ _ e => e)
    | bl b =>
      obtain rfl : u = Value.bool b := r1
      exact P.repr_of_bool (fin _ _ _ fun _ _ e => e)
    | int i =>
      obtain ⟨t, rfl⟩ := (show ∃ t, u = Value.int i t from r1)
      refine P.repr_of_int ?_ (fin _ _ _ fun _ _ e => e)
      simpa [PyData.showable] using hs
    | str y =>
      obtain ⟨t, rfl⟩ := (show ∃ t, u = Value.str y t from r1)
      exact P.repr_of_str (fin _ _ _ fun _ _ e => e) hz
    | lst h q =>
      cases (show u = Value.ref _ from r1)
      exact repr_of_reads' rd hs (fun _ => hn) hg (by omega) (fun _ _ e => e) (fun h' u tk k => fin h' u tk k) hz
    | tup h q =>
      cases (show u = Value.ref _ from r1)
      exact repr_of_reads' rd hs (fun _ => hn) hg (by omega) (fun _ _ e => e) (fun h' u tk k => fin h' u tk k) hz
    | dic h =>
      cases (show u = Value.ref _ from r1)
      exact repr_of_reads' rd hs (fun _ => hn) hg (by omega) (fun _ _ e => e) (fun h' u tk k => fin h' u tk k) hz
/-- len(x) of an own instance -/
def rLenO (C : Addr) (sp : Sp) : List V → Hp → VK → Prop := fun xs H Q => ∃ a dx fs, xs = [.ref a] ∧ H a = some (.ins C dx fs) ∧
  sp [.ref a] H (fun v H' => ∃ n : Int, v = .int n ∧ 0 ≤ n ∧ n < 2 ^ 63 ∧ Q (.int n) H') E0
theorem call_lenO {C f : Addr} {k : Nat} {fd : FuncData} {sp : Sp} (hs : PySem.W.findIn X.K (.ref C) "__len__" = some (some (.ref f))) (hf : PySem.W.isFn X.K (.ref f) = true)
    (F : FnOk X.prog X.w X.K X.mg X.base CX0 k f fd ["self"] sp) (hb : Binds X.K fd ["self"] []) (hr : Room (k + 1) X.A) : CallR X (.builtin "len") (rLenO C sp) := by
  intro pins s σ H xs us Q I r h
  obtain ⟨a, dx, fs, rfl, ha, q⟩ := h
  cases r with
  | @cons _ u _ _ r1 rt =>
    cases rt
    cases (show u = Value.ref a from r1)
    obtain ⟨mA, O, _⟩ := ins_get I.hok ha
    obtain ⟨od, J, _⟩ := O.look
    obtain ⟨m, fr⟩ := I.fr
    refine PySem.W.len_K fr I.ok.mod.kin J hs hf ?_
    have r2 : Vals [V.ref a] [Value.ref a] := .cons rfl .nil
    refine wpAny_call (codeAny_mono (F.run X.A.in1 X.stack s H ⟨[.ref a], []⟩ [.ref a] [.ref a] _ E0 hr.in1 I.env0.in1 (hb s [.ref a] I.kIn (by simp)) r2 q) fun r s' hq => ?_)
    cases r with
    | error e => exact False.elim hq
    | ok fl =>
      cases fl with
      | ret u =>
        obtain ⟨v, H', J', rv, n, rfl, h0, h1, q2⟩ := I.after hq
        obtain ⟨t, rfl⟩ := rv
        exact ⟨⟨h0, h1⟩, .int n, H', J'.tok _, ⟨_, rfl⟩, q2⟩
      | _ => exact False.elim hq
/-- sorted(x), x a list or a tuple of alike data: bs the items with what they read as -/
def sortD (bs : List (V × PyData)) : List (V × PyData) := bs.mergeSort (PySem.W.dataLe false Prod.snd)
def rSortD : List V → Hp → VK → Prop := fun xs H Q => ∃ (a : Addr) (bs : List (V × PyData)), xs = [.ref a] ∧ (H a = some (.lst (bs.map Prod.fst)) ∨ H a = some (.tup (bs.map Prod.fst))) ∧
  (∀ b ∈ bs, Rp H b.1 b.2) ∧ PySem.W.AllAlike (bs.map Prod.snd) ∧ PySem.W.Sortable (bs.map Prod.snd) ∧ (∀ b ∈ bs, b.2.depth ≤ 60) ∧ bs.length ≤ sizeLine ∧
  ∀ p, H p = none → Q (.ref p) (upd H p (.lst ((sortD bs).map Prod.fst)))
theorem each_of : ∀ {bs : List (V × PyData)} {us : List Value}, Vals (bs.map Prod.fst) us → PySem.W.EachIs (fun (u : Value) (b : V × PyData) => RelV b.1 u) us bs
  | [], _, .nil => .nil
  | _ :: _, _, .cons r t => .cons r (each_of t)
theorem of_each : ∀ {bs : List (V × PyData)} {us : List Value}, PySem.W.EachIs (fun (u : Value) (b : V × PyData) => RelV b.1 u) us bs → Vals (bs.map Prod.fst) us
  | [], _, .nil => .nil
  | _ :: _, _, .cons r t => .cons r (of_each t)
theorem each_rd {pins : List (Addr × Obj)} {σ : L2.St} {H : Hp} {s : Shared} (I : Inv X pins σ H s) (sm : ∃ o, X.K.lookup sysModules = some o) {h' : Heap} {l : Addr} (hl : s.heap.objs.size ≤ l)
    (kp : ∀ b o, s.heap.get? b = some o → h'.get? b = some o) : ∀ {bs : List (V × PyData)} {us : List Value}, (∀ b ∈ bs, Rp H b.1 b.2) → Vals (bs.map Prod.fst) us →
    PySem.W.EachIs (fun (u : Value) (b : V × PyData) => ∃ as, Reads h' u b.2 as ∧ l ∉ as) us bs
  | [], _, _, .nil => .nil
  | b :: bs, _, h, .cons r t => by
    obtain ⟨as, rd, _⟩ := Rp.reads I sm b.2 b.1 _ (h b (.head _)) r
    refine .cons ⟨as, PyProof.Rows.Reads.keeps kp rd, fun z => ?_⟩ (each_rd I sm hl kp (fun c hc => h c (.tail _ hc)) t)
    exact absurd (reads_lt rd z) (Nat.not_lt.mpr hl)
theorem cr_sortD {k : Nat} (sm : ∃ o, X.K.lookup sysModules = some o) (hr : Room k X.A) : CallR X (.builtin "sorted") rSortD := by
  intro pins s σ H xs us Q I r h
  obtain ⟨a, bs, rfl, ha, hrp, hal, hso, hdp, hlen, q⟩ := h
  have hu : X.A.units + 64 < cLine := hr.units
  rw [Vals.ref1 r]
  obtain ⟨T, hT, its, o, n, rv, ho, hc, hd⟩ : ∃ T, (T = "list" ∨ T = "tuple") ∧ ∃ (its : List Value) (o : Obj) (n : Nat), Vals (bs.map Prod.fst) its ∧ s.heap.get? a = some o ∧ o.cls = .type T ∧ o.data = .seq its.toArray n := by
    rcases ha with ha | ha
    · obtain ⟨_, its, n, rv, ho⟩ := (show ObjOk X.prog X.w H s.heap a (.lst (bs.map Prod.fst)) from I.hok a _ ha)
      exact ⟨"list", .inl rfl, its, _, n, rv, ho, rfl, rfl⟩
    · obtain ⟨_, its, rv, o, ho, hc, n, hd⟩ := (show ObjOk X.prog X.w H s.heap a (.tup (bs.map Prod.fst)) from I.hok a _ ha)
      exact ⟨"tuple", .inr rfl, its, o, n, rv, ho, hc, hd⟩
  have li : its.length = bs.length := by rw [← rv.length, List.length_map]
  refine Calls.call_function_entry kind_sorted plain_sorted entry_sorted (args_sorted1 _) ?_
  unfold Builtin.«sorted»
  refine wpAny_bind (m := checkCount "sorted" 1 1 _) (wpAny_pure ?_)
  refine wpAny_bind (wpAny_collect_seq a hT ho hc hd (fun h1 k1 => ?_) (by rw [List.size_toArray, li]; exact hlen))
  refine wpAny_bind (wpAny_newList ?_ (by simpa [li] using hlen))
  have I1 : Inv X pins σ H { s with heap := h1 } := I.kept (t' := s.toks) k1
  have kp : ∀ b o, h1.get? b = some o → (h1.push (seqObj "list" its.toArray 0)).get? b = some o := fun b o e => Heap.get?_push_of_some _ e
  have hL : (h1.push (seqObj "list" its.toArray 0)).get? h1.objs.size = some (seqObj "list" its.toArray 0) := Heap.get?_push_size _ rfl
  have er := each_rd (l := h1.objs.size) I1 sm (Nat.le_refl _) kp hrp rv
  show wpAny (model X.prog X.w) X.A.in1 _ _ _ { s with heap := h1.push (seqObj "list" its.toArray 0) }
  refine wpAny_bind (wpAny_holding (PySem.W.list_sort_data (bs := bs) (enc := Prod.snd) (R := fun (u : Value) (b : V × PyData) => RelV b.1 u) (vs := its) (n := 0) hL (each_of rv) er hal hso hlen
    (fun b hb => ?_) fun out ho1 ho2 => wpAny_pure ⟨_, rfl, ?_⟩))
  · have z := hdp b hb
    show X.A.units + 1 + 1 + b.2.depth < cLine
    omega
  · have vo := of_each ho2
    have hn : H h1.objs.size = none := I1.hok.fresh (Nat.le_refl _)
    have old : ∀ b o, h1.get? b = some o → (sortedHeap (h1.push (seqObj "list" its.toArray 0)) h1.objs.size its out.toArray).get? b = some o := fun b o e => by
      have lt := Heap.lt_size e
      rw [sortedHeap_old (Nat.ne_of_lt lt) (by rw [size_push']; exact Nat.lt_succ_of_lt lt)]
      exact kp b o e
    obtain ⟨c, hat⟩ := sortedHeap_at (out := out.toArray) hL
    have lo : ((sortD bs).map Prod.fst).length ≤ sizeLine := by
      rw [List.length_map]
      unfold sortD
      rw [List.length_mergeSort]
      exact hlen
    exact ⟨.ref h1.objs.size, upd H h1.objs.size (.lst ((sortD bs).map Prod.fst)), I1.laid (t' := s.toks) old (Nat.le_refl _) ⟨lo, out, c, vo, hat⟩, rfl, q _ hn⟩
end
end Ca

set_option maxHeartbeats 4000000
namespace Q
open PySem PySem.Spec PyProof.Rows L2 Ca
theorem bIsi : bootBuiltins "isinstance" = some (.builtin "isinstance") := by decide +kernel
theorem bInt : bootBuiltins "int" = some (.type "int") := by decide +kernel
theorem bBool : bootBuiltins "bool" = some (.type "bool") := by decide +kernel
theorem bStr : bootBuiltins "str" = some (.type "str") := by decide +kernel
theorem bTup : bootBuiltins "tuple" = some (.type "tuple") := by decide +kernel
theorem bLst : bootBuiltins "list" = some (.type "list") := by decide +kernel
theorem bLen : bootBuiltins "len" = some (.builtin "len") := by decide +kernel
theorem bAll : bootBuiltins "all" = some (.builtin "all") := by decide +kernel
theorem bSorted : bootBuiltins "sorted" = some (.builtin "sorted") := by decide +kernel
theorem bRepr : bootBuiltins "repr" = some (.builtin "repr") := by decide +kernel
theorem bMax : bootBuiltins "max" = some (.builtin "max") := by decide +kernel
theorem bMin : bootBuiltins "min" = some (.builtin "min") := by decide +kernel
/-! ### the text -/
def top (i : Nat) : Stmt := PySem.Challenge.pw_countalike_k27_books_made_and_described.main.body.getD i (.Pass ⟨0, 0, 0, 0⟩)
abbrev FnP (K : PySem.W.Frag) (x : PySem.Str) (st : Stmt) (f : Addr) (fd : FuncData) : Prop := FunD K x x (defArgs st) (defBody st) (defScope st) [] [] f fd
abbrev FnM (K : PySem.W.Frag) (x q : PySem.Str) (st : Stmt) (f : Addr) (fd : FuncData) : Prop := FunD K x q (defArgs st) (defBody st) (defScope st) [] [] f fd
/-- the built-in names that the text does not bind, the module's constants -/
structure Tx (K : PySem.W.Frag) (mg : PySem.Str → Option Value) : Prop where
  isi : mg "isinstance" = none
  int : mg "int" = none
  bool : mg "bool" = none
  str : mg "str" = none
  tup : mg "tuple" = none
  lst : mg "list" = none
  len : mg "len" = none
  all : mg "all" = none
  sorted : mg "sorted" = none
  repr : mg "repr" = none
  max : mg "max" = none
  min : mg "min" = none
  range : mg "range" = none
  kinds : ∃ a, mg "KINDS" = some (.ref a) ∧ ∀ H : Hp, SqT K H a [.str "A", .str "B", .str "C"]
  sm : ∃ o, K.lookup sysModules = some o
/-! ### is_number -/
abbrev s_is_number : Stmt := top 4
def isNum (d : PyData) (lo hi : Int) : Bool := match d with
  | .int i => decide (lo ≤ i) && decide (i ≤ hi)
  | _ => false
def spNum : Sp := fun vs H Q _ => ∃ v d lo hi, vs = [v, .int lo, .int hi] ∧ Rp H v d ∧ Q (.bl (isNum d lo hi)) H
theorem sc_num : FnScope ["thing", "least", "most"] ["thing", "least", "most"] (defScope s_is_number) := ⟨rfl, rfl, rfl, by decide +kernel, rfl, by decide +kernel, by decide +kernel⟩
section
variable {P : Program} {w : World} {K : PySem.W.Frag} {mg : PySem.Str → Option Value} {base : Heap}
/-- isinstance(x, T) of data -/
def isInt : PyData → Bool
  | .int _ => true
  | .bool _ => true
  | _ => false
def isBool : PyData → Bool
  | .bool _ => true
  | _ => false
def isTup : PyData → Bool
  | .tuple _ => true
  | _ => false
def isStr : PyData → Bool
  | .str _ => true
  | _ => false
theorem kInt {K : PySem.W.Frag} : ∀ d : PyData, PySem.W.kitOne K (.type (tyD d)) (.type "int") = some (isInt d)
  | .none => kit_ty (show kitB "NoneType" "int" = some false by decide +kernel)
  | .bool _ => kit_ty (show kitB "bool" "int" = some true by decide +kernel)
  | .int _ => kit_ty (show kitB "int" "int" = some true by decide +kernel)
  | .str _ => kit_ty (show kitB "str" "int" = some false by decide +kernel)
  | .list _ => kit_ty (show kitB "list" "int" = some false by decide +kernel)
  | .tuple _ => kit_ty (show kitB "tuple" "int" = some false by decide +kernel)
  | .dict _ => kit_ty (show kitB "dict" "int" = some false by decide +kernel)
theorem kBool {K : PySem.W.Frag} : ∀ d : PyData, PySem.W.kitOne K (.type (tyD d)) (.type "bool") = some (isBool d)
  | .none => kit_ty (show kitB "NoneType" "bool" = some false by decide +kernel)
  | .bool _ => kit_ty (show kitB "bool" "bool" = some true by decide +kernel)
  | .int _ => kit_ty (show kitB "int" "bool" = some false by decide +kernel)
  | .str _ => kit_ty (show kitB "str" "bool" = some false by decide +kernel)
  | .list _ => kit_ty (show kitB "list" "bool" = some false by decide +kernel)
  | .tuple _ => kit_ty (show kitB "tuple" "bool" = some false by decide +kernel)
  | .dict _ => kit_ty (show kitB "dict" "bool" = some false by decide +kernel)
theorem kTup {K : PySem.W.Frag} : ∀ d : PyData, PySem.W.kitOne K (.type (tyD d)) (.type "tuple") = some (isTup d)
  | .none => kit_ty (show kitB "NoneType" "tuple" = some false by decide +kernel)
  | .bool _ => kit_ty (show kitB "bool" "tuple" = some false by decide +kernel)
  | .int _ => kit_ty (show kitB "int" "tuple" = some false by decide +kernel)
  | .str _ => kit_ty (show kitB "str" "tuple" = some false by decide +kernel)
  | .list _ => kit_ty (show kitB "list" "tuple" = some false by decide +kernel)
  | .tuple _ => kit_ty (show kitB "tuple" "tuple" = some true by decide +kernel)
  | .dict _ => kit_ty (show kitB "dict" "tuple" = some false by decide +kernel)
theorem kStr {K : PySem.W.Frag} : ∀ d : PyData, PySem.W.kitOne K (.type (tyD d)) (.type "str") = some (isStr d)
  | .none => kit_ty (show kitB "NoneType" "str" = some false by decide +kernel)
  | .bool _ => kit_ty (show kitB "bool" "str" = some false by decide +kernel)
  | .int _ => kit_ty (show kitB "int" "str" = some false by decide +kernel)
  | .str _ => kit_ty (show kitB "str" "str" = some true by decide +kernel)
  | .list _ => kit_ty (show kitB "list" "str" = some false by decide +kernel)
  | .tuple _ => kit_ty (show kitB "tuple" "str" = some false by decide +kernel)
  | .dict _ => kit_ty (show kitB "dict" "str" = some false by decide +kernel)
theorem ok_num {f : Addr} {fd : FuncData} (F : FnP K "is_number" s_is_number f fd) (T : Tx K mg) : FnOk P w K mg base CX0 1 f fd ["thing", "least", "most"] spNum := by
  refine F.ok sc_num (fun vs H Q E h => ?_) (fun cdv A outer s H vs Q E hr h => ?_)
  · obtain ⟨v, d, lo, hi, rfl, _⟩ := h
    rfl
  · obtain ⟨v, d, lo, hi, rfl, rp, q⟩ := h
    refine ⟨_, PSs.nox (pss_one (ps_ret (pe_and (pe_callB call_isi (by rfl) T.isi bIsi (pa_cons (pv 0) (pa_cons (pe_bltn (v := .ty "int") (by rfl) T.int bInt rfl) pa_nil)))
      (pe_and (pe_not (pe_callB call_isi (by rfl) T.isi bIsi (pa_cons (pv 0) (pa_cons (pe_bltn (v := .ty "bool") (by rfl) T.bool bBool rfl) pa_nil))))
        (pe_one (pe_chain op_le op_le (pv 1) (pv 0) (pv 2))))))), ?_⟩
    refine ⟨_, rfl, _, _, _, _, _, rfl, .ty _, rp.ty, kInt d, _, rfl, ?_⟩
    cases hi1 : isInt d with
    | false =>
      refine iteF ?_
      have e : isNum d lo hi = false := by cases d <;> first | rfl | cases hi1
      rw [e] at q
      exact q
    | true =>
      refine iteT ⟨_, rfl, _, _, _, _, _, rfl, .ty _, rp.ty, kBool d, _, rfl, _, rfl, ?_⟩
      cases hb1 : isBool d with
      | true =>
        have e : isNum d lo hi = false := by cases d <;> first | rfl | cases hb1
        rw [e] at q
        exact iteF q
      | false =>
        refine iteT ?_
        cases rp with
        | int i =>
          refine ⟨_, rfl, _, rfl, lo, i, rfl, rfl, decide (lo ≤ i), rfl, ?_⟩
          by_cases c : lo ≤ i
          · have e : isNum (.int i) lo hi = decide (i ≤ hi) := by simp [isNum, c]
            rw [e] at q
            rw [decide_eq_true c]
            exact iteT ⟨_, rfl, i, hi, rfl, rfl, q⟩
          · have e : isNum (.int i) lo hi = false := by simp [isNum, c]
            rw [e] at q
            rw [decide_eq_false c]
            exact iteF q
        | bl b => cases hb1
        | _ => cases hi1
end
end Q

set_option maxHeartbeats 4000000
namespace Q
open PySem PySem.Spec PyProof.Rows L2 Ca
/-! ### is_triple -/
abbrev s_is_triple : Stmt := top 5
def kindOk (k : PySem.Str) : Bool := inV (.str k) [.str "A", .str "B", .str "C"]
def isTri (d : PyData) (m : Int) : Bool := match d with
  | .tuple [.str k, l, r] => kindOk k && (isNum l 0 m && isNum r 0 m)
  | _ => false
theorem isTri_tup {ds : List PyData} {m : Int} (h : ds.length ≠ 3) : isTri (.tuple ds) m = false := by
  match ds, h with
  | [], _ => rfl
  | [a], _ => cases a <;> rfl
  | [a, b], _ => cases a <;> rfl
  | [a, b, c], h => exact absurd rfl h
  | a :: b :: c :: e :: r, _ => cases a <;> rfl
theorem isTri_not {d : PyData} {m : Int} (h : isTup d = false) : isTri d m = false := by
  cases d <;> first | rfl | cases h
theorem isTri_kind {k l r : PyData} {m : Int} (h : isStr k = false) : isTri (.tuple [k, l, r]) m = false := by
  cases k <;> first | rfl | cases h
def spTri : Sp := fun vs H Q _ => ∃ v d m, vs = [v, .int m] ∧ Rp H v d ∧ Q (.bl (isTri d m)) H
theorem sc_tri : FnScope ["thing", "most", "kind", "left", "right"] ["thing", "most"] (defScope s_is_triple) := ⟨rfl, rfl, rfl, by decide +kernel, rfl, by decide +kernel, by decide +kernel⟩
section
variable {P : Program} {w : World} {K : PySem.W.Frag} {mg : PySem.Str → Option Value} {base : Heap}
theorem ok_tri {f fN : Addr} {fd fdN : FuncData} (F : FnP K "is_triple" s_is_triple f fd) (T : Tx K mg) (FN : FnP K "is_number" s_is_number fN fdN) (gN : mg "is_number" = some (.ref fN)) :
    FnOk P w K mg base CX0 2 f fd ["thing", "most"] spTri := by
  have GN : FnOk P w K mg base CX0 1 fN fdN ["thing", "least", "most"] spNum := ok_num FN T
  have bN : Binds K fdN ["thing", "least", "most"] [] := FN.bindsN fun _ _ _ _ _ _ us hl => match us, hl with | [_, _, _], _ => rfl
  obtain ⟨aK, gK, sK⟩ := T.kinds
  refine F.ok sc_tri (fun vs H Q E h => ?_) (fun cdv A outer s H vs Q E hr h => ?_)
  · obtain ⟨v, d, m, rfl, _⟩ := h
    rfl
  · obtain ⟨v, d, m, rfl, rp, q⟩ := h
    refine ⟨_, PSs.nox (pss_cons (ps_if (PW.pt (pw_or (pt_not (pt_val (pe_callB call_isi (by rfl) T.isi bIsi (pa_cons (pv 0) (pa_cons (pe_bltn (v := .ty "tuple") (by rfl) T.tup bTup rfl) pa_nil)))))
        (pw_or1 (pt_cmpR op_ne (pe_callB call_len_seq (by rfl) T.len bLen (pa_cons (pv 0) pa_nil)) pe_int (nomark _))))) (pss_one (ps_ret pe_bl)) pss_nil)
      (pss_cons (ps_asg (pv 0) (pg_tup (by rfl) (pgs_cons (pg_name (i := 2) sc_tri.nd rfl (.inl rfl)) (pgs_cons (pg_name (i := 3) sc_tri.nd rfl (.inl rfl)) (pgs_cons (pg_name (i := 4) sc_tri.nd rfl (.inl rfl)) pgs_nil)))))
      (pss_cons (ps_if (PW.pt (pw_or (pt_not (pt_val (pe_callB call_isi (by rfl) T.isi bIsi (pa_cons (pv 2) (pa_cons (pe_bltn (v := .ty "str") (by rfl) T.str bStr rfl) pa_nil)))))
        (pw_or1 (pt_cmpR op_notIn_seq (pv 2) (pe_glob (v := .ref aK) rfl gK rfl) (by rfl))))) (pss_one (ps_ret pe_bl)) pss_nil)
      (pss_one (ps_ret (pe_and (pe_call GN hr rfl gN FN.kp bN .nil pass0 (pa_cons (pv 3) (pa_cons pe_int (pa_cons (pv 1) pa_nil))))
        (pe_one (pe_call GN hr rfl gN FN.kp bN .nil pass0 (pa_cons (pv 4) (pa_cons pe_int (pa_cons (pv 1) pa_nil)))))))))) ), ?_⟩
    refine ⟨_, rfl, _, _, _, _, _, rfl, .ty _, rp.ty, kTup d, _, rfl, ?_⟩
    cases hT : isTup d with
    | false =>
      rw [isTri_not hT] at q
      exact iteT (iteT q)
    | true =>
      refine iteF ?_
      cases rp with
      | @tup a xs ds h r =>
        refine ⟨_, rfl, a, xs, rfl, .inr (.inl (.inl h)), rfl, _, rfl, ?_⟩
        have hl := r.length
        by_cases h3 : ds.length = 3
        · have e3 : (!decide (V.int ((xs.length : Nat) : Int) = V.int 3)) = false := by
            rw [hl, h3]
            rfl
          rw [e3]
          refine iteF ?_
          match ds, h3 with
          | [dk, dl, dr], _ =>
            cases r with
            | @cons vk _ _ _ rk r =>
              cases r with
              | @cons vl _ _ _ rl r =>
                cases r with
                | @cons vr _ _ _ rr r =>
                  cases r
                  refine ⟨_, rfl, a, _, rfl, .inl (.inl h), rfl, vk, _, rfl, vl, _, rfl, vr, _, rfl, rfl, ?_⟩
                  refine ⟨_, rfl, _, _, _, _, _, rfl, .ty _, rk.ty, kStr dk, _, rfl, ?_⟩
                  cases hS : isStr dk with
                  | false =>
                    rw [isTri_kind hS] at q
                    exact iteT (iteT q)
                  | true =>
                    refine iteF ?_
                    cases rk with
                    | str k =>
                      refine ⟨_, rfl, aK, _, rfl, .inr (sK H), rfl, rfl, _, rfl, ?_⟩
                      show if (!kindOk k) = true then _ else _
                      cases hk : kindOk k with
                      | false =>
                        have e : isTri (.tuple [.str k, dl, dr]) m = false := by simp [isTri, hk]
                        rw [e] at q
                        exact iteT q
                      | true =>
                        refine iteF ?_
                        have e : isTri (.tuple [.str k, dl, dr]) m = (isNum dl 0 m && isNum dr 0 m) := by simp [isTri, hk]
                        rw [e] at q
                        refine ⟨_, rfl, _, rfl, vl, dl, 0, m, rfl, rl, _, rfl, ?_⟩
                        cases hn : isNum dl 0 m with
                        | false =>
                          rw [hn] at q
                          exact iteF q
                        | true =>
                          rw [hn] at q
                          exact iteT ⟨_, rfl, _, rfl, vr, dr, 0, m, rfl, rr, q⟩
                    | _ => cases hS
        · have e3 : (!decide (V.int ((xs.length : Nat) : Int) = V.int 3)) = true := by
            have z : ¬ V.int ((xs.length : Nat) : Int) = V.int 3 := fun z => by
              injection z with z
              omega
            rw [decide_eq_false z]
            rfl
          rw [e3]
          rw [isTri_tup h3] at q
          exact iteT q
      | _ => cases hT
end
end Q

set_option maxHeartbeats 4000000
namespace Ca
open PySem PySem.Spec PyProof.Rows L2
/-- the heap without what stands at D -/
def off (D : Addr) (H : Hp) : Hp := fun a => if a = D then none else H a
theorem off_ne {D a : Addr} {H : Hp} (h : a ≠ D) : off D H a = H a := if_neg h
theorem off_same {D : Addr} {H : Hp} : Same (off D H) H := fun b o e => by
  unfold off at e
  split at e
  · cases e
  · exact e
theorem off_mono {D : Addr} {H H' : Hp} (h : Same H H') : Same (off D H) (off D H') := fun b o e => by
  unfold off at e ⊢
  split at e
  · cases e
  · rename_i hb
    rw [if_neg hb]
    exact h b o e
theorem off_upd {D : Addr} {H : Hp} {o : HO} : off D (upd H D o) = off D H := by
  funext b
  unfold off
  split
  · rfl
  · rename_i hb
    exact upd_ne hb
theorem same_new {H : Hp} {D : Addr} {o : HO} (h : H D = none) : Same H (upd H D o) := fun b u e => by
  rw [upd_ne (ne_of_none e h)]
  exact e
theorem same_mut {H H' : Hp} {D : Addr} {o : HO} (s : Same H H') (h : H D = none) : Same H (upd H' D o) := fun b u e => by
  rw [upd_ne (ne_of_none e h)]
  exact s b u e
/-- what is kept of the items so far -/
abbrev keptD (F : PyData → Option PyData) (l : List PyData) : List PyData := l.filterMap F
theorem keptD_app (F : PyData → Option PyData) (a b : List PyData) : keptD F (a ++ b) = keptD F a ++ keptD F b := List.filterMap_append ..
theorem keptD_len (F : PyData → Option PyData) (l : List PyData) : (keptD F l).length ≤ l.length := List.length_filterMap_le ..
theorem keptD_map (f : PyData → PyData) (l : List PyData) : keptD (fun d => some (f d)) l = l.map f := by
  induction l with
  | nil => rfl
  | cons d l ih =>
    show List.filterMap _ (d :: l) = _
    rw [List.filterMap_cons]
    show f d :: List.filterMap _ l = _
    rw [show List.filterMap (fun d => some (f d)) l = l.map f from ih]
    rfl
theorem take_more {α : Type} : ∀ {l : List α} {i : Nat} {x : α}, l[i]? = some x → l.take (i + 1) = l.take i ++ [x]
  | [], i, x, h => by simp at h
  | a :: l, 0, x, h => by
    cases (show some a = some x from h)
    rfl
  | a :: l, i + 1, x, h => by
    have ih := take_more (l := l) (i := i) (x := x) (by simpa using h)
    show a :: l.take (i + 1) = (a :: l.take i) ++ [x]
    rw [ih]
    rfl
/-- one more item appended at D -/
def Ap (D : Addr) (Nx : Hp → Prop) (y : V) (H : Hp) : Prop := ∃ acc, H D = some (.lst acc) ∧ acc.length < sizeLine ∧ Nx (upd H D (.lst (acc ++ [y])))
/-- a turn of a comprehension: item x reads as d; what is appended reads as F d (nothing where F d is none) -/
abbrev LcTurn (σ : L2.St) (vs : List Nat) (g : TG) (tt : TT) (te : TE) (D : Addr) (H : Hp) (ds : List PyData) (F : PyData → Option PyData) : Prop :=
  ∀ (x : V) (d : PyData) (H' : Hp) (Nx : Hp → Prop), d ∈ ds → Same H H' → H' D ≠ none → Rp (off D H') x d →
    (∀ (y : V) (e : PyData) (H4 : Hp), F d = some e → Same H' H4 → Rp (off D H4) y e → Ap D Nx y H4) → (F d = none → ∀ H4, Same H' H4 → Nx H4) →
    g x (wipe σ vs) H' fun σ2 H2 => wipe σ2 vs = wipe σ vs ∧ tt σ2 H2 fun b H3 => if b = true then te σ2 H3 (Ap D Nx) else Nx H3
abbrev LcInv (H : Hp) (D : Addr) (ds : List PyData) (F : PyData → Option PyData) (i : Nat) (H' : Hp) : Prop :=
  Same H H' ∧ ∃ acc, H' D = some (.lst acc) ∧ RpA (off D H') acc (keptD F (ds.take i))
section
variable {K : PySem.W.Frag} {a D : Addr} {xs : List V} {ds : List PyData} {H : Hp} {σ : L2.St} {vs : List Nat} {g : TG} {tt : TT} {te : TE} {F : PyData → Option PyData} {Qd : Hp → Prop}
theorem lc_turn (hD : H D = none) (r : RpA H xs ds) (hz : ds.length ≤ 1000) (ht : LcTurn σ vs g tt te D H ds F) : ∀ i x H', xs[i]? = some x → LcInv H D ds F i H' →
    g x (wipe σ vs) H' fun σ2 H2 => wipe σ2 vs = wipe σ vs ∧ tt σ2 H2 fun b H3 => if b = true then te σ2 H3 fun y H4 => ∃ acc, H4 D = some (.lst acc) ∧ acc.length < sizeLine ∧
      LcInv H D ds F (i + 1) (upd H4 D (.lst (acc ++ [y]))) else LcInv H D ds F (i + 1) H3 := by
  intro i x H' hi ⟨s, acc, hacc, ra⟩
  obtain ⟨d, hd, rx⟩ := r.get hi
  have e1 : ds.take (i + 1) = ds.take i ++ [d] := take_more hd
  have kD : Same H (off D H') := fun b o e => by
    rw [off_ne (ne_of_none e hD)]
    exact s b o e
  refine ht x d H' (LcInv H D ds F (i + 1)) (List.mem_of_getElem? hd) s (by rw [hacc]; simp) (rx.mono kD) (fun y e H4 hF s4 ry => ?_) (fun hF H4 s4 => ?_)
  · refine ⟨acc, s4 _ _ hacc, ?_, ?_⟩
    · have l1 := ra.length
      have l2 := keptD_len F (ds.take i)
      have l3 : (ds.take i).length ≤ 1000 := by rw [List.length_take]; omega
      have : acc.length ≤ 1000 := by omega
      exact small1000 this
    · refine ⟨same_mut (s.trans s4) hD, _, upd_same, ?_⟩
      rw [off_upd, e1, keptD_app]
      have e2 : keptD F [d] = [e] := by simp [keptD, hF]
      rw [e2]
      exact (ra.mono (off_mono s4)).append (.cons ry .nil)
  · refine ⟨s.trans s4, acc, s4 _ _ hacc, ?_⟩
    have e2 : keptD F [d] = [] := by simp [keptD, hF]
    rw [e1, keptD_app, e2, List.append_nil]
    exact ra.mono (off_mono s4)
theorem lc_fin (r : RpA H xs ds) (hq : ∀ H' acc, Same H H' → H' D = some (.lst acc) → RpA (off D H') acc (keptD F ds) → Qd H') : ∀ H', LcInv H D ds F xs.length H' → Qd H' := by
  intro H' ⟨s, acc, h1, h2⟩
  rw [r.length, List.take_length] at h2
  exact hq H' acc s h1 h2
theorem lc_ini (hD : H D = none) : LcInv H D ds F 0 (upd H D (.lst [])) := ⟨same_new hD, [], upd_same, .nil⟩
/-- what a comprehension's reading asks behind its source -/
abbrev LcW (J : It) (σ : L2.St) (vs : List Nat) (g : TG) (tt : TT) (te : TE) (H1 : Hp) (D : Addr) (Qd : Hp → Prop) : Prop :=
  ∃ W : Nat → Nat → Hp → Prop, (∃ m, W 0 m (upd H1 D (.lst []))) ∧ ∀ i m H, W i m H → (J.stop i H ∧ Qd H) ∨ (J.go i H ∧ ∃ Nx : Hp → Prop,
    (∀ H', Nx H' → ∃ m', m' < m ∧ W (i + 1) m' H') ∧ ∀ x H', J.yld i H x H' → g x (wipe σ vs) H' fun σ2 H2 => wipe σ2 vs = wipe σ vs ∧ tt σ2 H2 fun b H3 =>
      if b = true then te σ2 H3 fun y H4 => ∃ acc, H4 D = some (.lst acc) ∧ acc.length < sizeLine ∧ Nx (upd H4 D (.lst (acc ++ [y]))) else Nx H3)
/-- over a tuple, a list -/
theorem lcT (hx : H a = some (.tup xs)) (r : RpA H xs ds) (hz : ds.length ≤ 1000) (hD : H D = none) (ht : LcTurn σ vs g tt te D H ds F)
    (hq : ∀ H' acc, Same H H' → H' D = some (.lst acc) → RpA (off D H') acc (keptD F ds) → Qd H') : LcW (Itt K a) σ vs g tt te H D Qd :=
  lc_tup (LcInv H D ds F) (lc_ini hD) (fun i H' _ p => .inl (.inl (p.1 _ _ hx))) (lc_turn hD r hz ht) (lc_fin r hq)
theorem lcL (hx : H a = some (.lst xs)) (r : RpA H xs ds) (hz : ds.length ≤ 1000) (hD : H D = none) (ht : LcTurn σ vs g tt te D H ds F)
    (hq : ∀ H' acc, Same H H' → H' D = some (.lst acc) → RpA (off D H') acc (keptD F ds) → Qd H') : LcW (Itl K a) σ vs g tt te H D Qd :=
  lc_list (LcInv H D ds F) (lc_ini hD) (fun i H' _ p => .inl (.inl (p.1 _ _ hx))) (lc_turn hD r hz ht) (lc_fin r hq)
end
end Ca

set_option maxHeartbeats 4000000
namespace Ca
open PySem PySem.Spec PyProof.Rows L2
/-! what an expression gives, in data; S: what may change under way (lists, dicts, sets being made), nothing of which is read as data -/
def offS (S : Addr → Bool) (H : Hp) : Hp := fun a => if S a = true then none else H a
def MutO : HO → Prop
  | .tup _ => False
  | .tbl _ => False
  | .ins _ _ fs => (fs.lookup ("held" : PySem.Str)).isSome = true
  | _ => True
def Fr (S : Addr → Bool) (H : Hp) : Prop := ∀ a, S a = true → ∃ o, H a = some o ∧ MutO o
section
variable {S : Addr → Bool} {H H' : Hp} {p : Addr} {o : HO}
theorem Fr.mono (f : Fr S H) (s : Same H H') : Fr S H' := fun a h => let ⟨o, e, m⟩ := f a h; ⟨o, s _ _ e, m⟩
theorem offS_mono (s : Same H H') : Same (offS S H) (offS S H') := fun b o e => by
  unfold offS at e ⊢
  split at e
  · cases e
  · rename_i hb
    rw [if_neg hb]
    exact s b o e
theorem offS_same : Same (offS S H) H := fun b o e => by
  unfold offS at e
  split at e
  · cases e
  · exact e
theorem offS_at (h : S p = false) : offS S H p = H p := by
  unfold offS
  rw [h]
  rfl
theorem Fr.new (f : Fr S H) (h : H p = none) : S p = false := by
  cases e : S p with
  | false => rfl
  | true =>
    obtain ⟨o, e2, _⟩ := f p e
    rw [h] at e2
    cases e2
theorem Fr.imm (f : Fr S H) (h : H p = some o) (hm : ¬ MutO o) : S p = false := by
  cases e : S p with
  | false => rfl
  | true =>
    obtain ⟨o', e2, m⟩ := f p e
    rw [h] at e2
    cases e2
    exact absurd m hm
theorem offS_new (f : Fr S H) (h : H p = none) : offS S (upd H p o) p = some o := by
  rw [offS_at (f.new h), upd_same]
theorem fr0 : Fr (fun _ => false) H := fun a h => by cases h
theorem off0 : offS (fun _ => false) H = H := rfl
def addS (S : Addr → Bool) (D : Addr) : Addr → Bool := fun a => S a || decide (a = D)
theorem Fr.add (f : Fr S H) (h : H p = some o) (m : MutO o) : Fr (addS S p) H := fun a ha => by
  unfold addS at ha
  rw [Bool.or_eq_true] at ha
  rcases ha with z | z
  · exact f a z
  · rw [of_decide_eq_true z]
    exact ⟨o, h, m⟩
theorem addS_off : Same (offS (addS S p) H) (offS S H) := fun b o e => by
  unfold offS at e ⊢
  split at e
  · cases e
  · rename_i hb
    have : ¬ S b = true := fun z => hb (by unfold addS; rw [z]; rfl)
    rw [if_neg this]
    exact e
theorem addS_new (h : (offS S H) p = none) (s : Same (offS S H) (offS S H')) : Same (offS S H) (offS (addS S p) H') := fun b o e => by
  have e2 := s b o e
  have nb : b ≠ p := fun z => by rw [z, h] at e; cases e
  unfold offS at e2 ⊢
  split at e2
  · cases e2
  · rename_i hb
    have : ¬ addS S p b = true := fun z => by
      unfold addS at z
      rw [Bool.or_eq_true] at z
      rcases z with z | z
      · exact hb z
      · exact nb (of_decide_eq_true z)
    rw [if_neg this]
    exact e2
theorem addS_upd : Same (offS (addS S p) H) (offS (addS S p) (upd H p o)) := fun b u e => by
  unfold offS at e ⊢
  split at e
  · cases e
  · rename_i hb
    rw [if_neg hb]
    have nb : b ≠ p := fun z => hb (by unfold addS; rw [z]; simp)
    rw [upd_ne nb]
    exact e
end
def EvP (te : TE) (σ : L2.St) (F : Hp) (P : Hp → V → Prop) : Prop := ∀ (S : Addr → Bool) (H1 : Hp), Fr S H1 → Same F (offS S H1) → ∀ Q : VK, (∀ v H2, Same H1 H2 → P (offS S H2) v → Q v H2) → te σ H1 Q
abbrev EvD (te : TE) (σ : L2.St) (F : Hp) (d : PyData) : Prop := EvP te σ F fun H v => Rp H v d
def EvA (ta : TA) (σ : L2.St) (F : Hp) (ds : List PyData) : Prop := ∀ (S : Addr → Bool) (H1 : Hp), Fr S H1 → Same F (offS S H1) → ∀ Q : List V → Hp → Prop, (∀ vs H2, Same H1 H2 → RpA (offS S H2) vs ds → Q vs H2) → ta σ H1 Q
def EvB (tt : TT) (σ : L2.St) (F : Hp) (b : Bool) : Prop := ∀ (S : Addr → Bool) (H1 : Hp), Fr S H1 → Same F (offS S H1) → ∀ Q : Bool → Hp → Prop, (∀ H2, Same H1 H2 → Q b H2) → tt σ H1 Q
def EvO (tl : TO) (σ : L2.St) (F : Hp) (o : Option Int) : Prop := ∀ (S : Addr → Bool) (H1 : Hp), Fr S H1 → Same F (offS S H1) → ∀ Q : Option Int → Hp → Prop, (∀ H2, Same H1 H2 → Q o H2) → tl σ H1 Q
section
variable {K : PySem.W.Frag} {σ : L2.St} {F : Hp} {ta tb tc te : TE} {tas : TA} {tt tu : TT} {d e : PyData} {ds es : List PyData} {P P2 : Hp → V → Prop}
theorem EvP.weak (h : EvP te σ F P) (hw : ∀ H v, P H v → P2 H v) : EvP te σ F P2 := fun S H1 f s Q q => h S H1 f s Q fun v H2 s2 p => q v H2 s2 (hw _ _ p)
theorem EvP.at {F2 : Hp} (h : EvP te σ F P) (s : Same F F2) : EvP te σ F2 P := fun S H1 f s1 Q q => h S H1 f (s.trans s1) Q q
theorem EvB.at {F2 : Hp} {b : Bool} (h : EvB tt σ F b) (s : Same F F2) : EvB tt σ F2 b := fun S H1 f s1 Q q => h S H1 f (s.trans s1) Q q
/-! names and constants -/
theorem e_varP {i : Nat} {v : V} (h : σ[i]? = some (some v)) (r : ∀ H, Same F H → P H v) : EvP (tVar i) σ F P := fun S H1 f s Q q => ⟨v, h, q v H1 (Same.refl _) (r _ s)⟩
theorem e_var {i : Nat} {v : V} (h : σ[i]? = some (some v)) (r : Rp F v d) : EvD (tVar i) σ F d := e_varP h fun _ s => r.mono s
theorem e_int {i : Int} : EvD (tC (.int i)) σ F (.int i) := fun S H1 _ _ Q q => q _ H1 (Same.refl _) (.int i)
theorem e_str {x : PySem.Str} : EvD (tC (.str x)) σ F (.str x) := fun S H1 _ _ Q q => q _ H1 (Same.refl _) (.str x)
theorem e_bl {b : Bool} : EvD (tC (.bl b)) σ F (.bool b) := fun S H1 _ _ Q q => q _ H1 (Same.refl _) (.bl b)
theorem e_non : EvD (tC .non) σ F .none := fun S H1 _ _ Q q => q _ H1 (Same.refl _) .non
theorem a_nil : EvA tNil σ F [] := fun S H1 _ _ Q q => q _ H1 (Same.refl _) .nil
theorem a_cons (h : EvD te σ F d) (hs : EvA tas σ F ds) : EvA (tCons te tas) σ F (d :: ds) := fun S H1 f s Q q =>
  h S H1 f s _ fun v H2 s2 r => hs S H2 (f.mono s2) (s.trans (offS_mono s2)) _ fun vs H3 s3 rs => q _ H3 (s2.trans s3) (.cons (r.mono (offS_mono s3)) rs)
theorem e_tup (h : EvA tas σ F ds) (hl : ds.length ≤ 1000 := by first | decide | (simp only [List.length_cons, List.length_nil]; omega)) : EvD (tTup tas) σ F (.tuple ds) := fun S H1 f s Q q =>
  h S H1 f s _ fun vs H2 s2 r => ⟨by rw [r.length]; exact Nat.le_of_lt (small1000 hl), fun p hp => q _ _ (s2.trans (same_new hp)) (.tup (offS_new (f.mono s2) hp) (r.mono (offS_mono (same_new hp))))⟩
theorem e_lst (h : EvA tas σ F ds) (hl : ds.length ≤ 1000 := by first | decide | (simp only [List.length_cons, List.length_nil]; omega)) : EvD (tLst tas) σ F (.list ds) := fun S H1 f s Q q =>
  h S H1 f s _ fun vs H2 s2 r => ⟨by rw [r.length]; exact Nat.le_of_lt (small1000 hl), fun p hp => q _ _ (s2.trans (same_new hp)) (.lst (offS_new (f.mono s2) hp) (r.mono (offS_mono (same_new hp))))⟩
theorem e_dic : EvD tDNewK σ F (.dict []) := fun S H1 f s Q q => fun p hp => q _ _ (same_new hp) (.dic (offS_new f hp))
/-! operators -/
theorem e_op {r : R2} (ha : EvD ta σ F d) (hb : EvD tb σ F e)
    (hr : ∀ (S : Addr → Bool) (H : Hp) (x y : V), Fr S H → Rp (offS S H) x d → Rp (offS S H) y e → ∀ Q : VK, (∀ v H2, Same H H2 → P (offS S H2) v → Q v H2) → r x y H Q) : EvP (tOp r ta tb) σ F P := fun S H1 f s Q q =>
  ha S H1 f s _ fun x H2 s2 r2 => hb S H2 (f.mono s2) (s.trans (offS_mono s2)) _ fun y H3 s3 r3 =>
    hr S H3 x y (f.mono (s2.trans s3)) (r2.mono (offS_mono s3)) r3 Q fun v H4 s4 p => q v H4 ((s2.trans s3).trans s4) p
theorem e_un {r : V → Hp → VK → Prop} (ha : EvD ta σ F d)
    (hr : ∀ (S : Addr → Bool) (H : Hp) (x : V), Fr S H → Rp (offS S H) x d → ∀ Q : VK, (∀ v H2, Same H H2 → P (offS S H2) v → Q v H2) → r x H Q) : EvP (tUn r ta) σ F P := fun S H1 f s Q q =>
  ha S H1 f s _ fun x H2 s2 r2 => hr S H2 x (f.mono s2) r2 Q fun v H4 s4 p => q v H4 (s2.trans s4) p
theorem e_neg {i : Int} (ha : EvD ta σ F (.int i)) : EvD (tUn (rU fun i => .int (-i)) ta) σ F (.int (-i)) := e_un ha fun S H x f r Q q => by
  cases r
  exact ⟨i, rfl, q _ H (Same.refl _) (.int _)⟩
theorem e_add {i j : Int} (ha : EvD ta σ F (.int i)) (hb : EvD tb σ F (.int j)) : EvD (tOp (rI0 fun i j => .int (i + j)) ta tb) σ F (.int (i + j)) := e_op ha hb fun S H x y f rx ry Q q => by
  cases rx; cases ry
  exact ⟨i, j, rfl, rfl, q _ H (Same.refl _) (.int _)⟩
theorem e_sub {i j : Int} (ha : EvD ta σ F (.int i)) (hb : EvD tb σ F (.int j)) : EvD (tOp (rI0 fun i j => .int (i - j)) ta tb) σ F (.int (i - j)) := e_op ha hb fun S H x y f rx ry Q q => by
  cases rx; cases ry
  exact ⟨i, j, rfl, rfl, q _ H (Same.refl _) (.int _)⟩
theorem e_mul {i j : Int} (ha : EvD ta σ F (.int i)) (hb : EvD tb σ F (.int j)) (h : CMul i j) : EvD (tOp (rI CMul fun i j => .int (i * j)) ta tb) σ F (.int (i * j)) := e_op ha hb fun S H x y f rx ry Q q => by
  cases rx; cases ry
  exact ⟨i, j, rfl, rfl, h, q _ H (Same.refl _) (.int _)⟩
theorem e_cmp {g : Int → Int → Bool} {i j : Int} (ha : EvD ta σ F (.int i)) (hb : EvD tb σ F (.int j)) : EvD (tOp (rI0 fun i j => .bl (g i j)) ta tb) σ F (.bool (g i j)) := e_op ha hb fun S H x y f rx ry Q q => by
  cases rx; cases ry
  exact ⟨i, j, rfl, rfl, q _ H (Same.refl _) (.bl _)⟩
theorem e_eqI {i j : Int} (ha : EvD ta σ F (.int i)) (hb : EvD tb σ F (.int j)) : EvD (tOp rEq ta tb) σ F (.bool (decide (i = j))) := e_op ha hb fun S H x y f rx ry Q q => by
  cases rx; cases ry
  refine ⟨rfl, q _ H (Same.refl _) ?_⟩
  have e : decide (V.int i = V.int j) = decide (i = j) := by simp
  rw [e]
  exact .bl _
theorem e_neI {i j : Int} (ha : EvD ta σ F (.int i)) (hb : EvD tb σ F (.int j)) : EvD (tOp rNe ta tb) σ F (.bool (!decide (i = j))) := e_op ha hb fun S H x y f rx ry Q q => by
  cases rx; cases ry
  refine ⟨rfl, q _ H (Same.refl _) ?_⟩
  have e : decide (V.int i = V.int j) = decide (i = j) := by simp
  rw [e]
  exact .bl _
theorem e_eqS {i j : PySem.Str} (ha : EvD ta σ F (.str i)) (hb : EvD tb σ F (.str j)) : EvD (tOp rEq ta tb) σ F (.bool (decide (i = j))) := e_op ha hb fun S H x y f rx ry Q q => by
  cases rx; cases ry
  refine ⟨rfl, q _ H (Same.refl _) ?_⟩
  have e : decide (V.str i = V.str j) = decide (i = j) := by simp
  rw [e]
  exact .bl _
theorem e_neS {i j : PySem.Str} (ha : EvD ta σ F (.str i)) (hb : EvD tb σ F (.str j)) : EvD (tOp rNe ta tb) σ F (.bool (!decide (i = j))) := e_op ha hb fun S H x y f rx ry Q q => by
  cases rx; cases ry
  refine ⟨rfl, q _ H (Same.refl _) ?_⟩
  have e : decide (V.str i = V.str j) = decide (i = j) := by simp
  rw [e]
  exact .bl _
theorem e_addS {x y : PySem.Str} (ha : EvD ta σ F (.str x)) (hb : EvD tb σ F (.str y)) (hl : x.length + y.length ≤ 1000) :
    EvD (tOp (fun x y H Q => ∃ i j, x = .str i ∧ y = .str j ∧ i.length + j.length ≤ sizeLine ∧ Q (.str (i ++ j)) H) ta tb) σ F (.str (x ++ y)) := e_op ha hb fun S H u v f rx ry Q q => by
  cases rx; cases ry
  exact ⟨x, y, rfl, rfl, Nat.le_of_lt (small1000 hl), q _ H (Same.refl _) (.str _)⟩
theorem rp_lst {S : Addr → Bool} {H : Hp} {v : V} (r : Rp (offS S H) v (.list ds)) : ∃ a xs, v = .ref a ∧ H a = some (.lst xs) ∧ RpA (offS S H) xs ds := by
  cases r with
  | lst h q => exact ⟨_, _, rfl, offS_same _ _ h, q⟩
theorem rp_tup {S : Addr → Bool} {H : Hp} {v : V} (r : Rp (offS S H) v (.tuple ds)) : ∃ a xs, v = .ref a ∧ H a = some (.tup xs) ∧ RpA (offS S H) xs ds := by
  cases r with
  | tup h q => exact ⟨_, _, rfl, offS_same _ _ h, q⟩
theorem e_cat (ha : EvD ta σ F (.list ds)) (hb : EvD tb σ F (.list es)) (hl : ds.length + es.length ≤ 1000) : EvD (tOp rCat ta tb) σ F (.list (ds ++ es)) := e_op ha hb fun S H x y f rx ry Q q => by
  obtain ⟨a, xs, rfl, h1, r1⟩ := rp_lst rx
  obtain ⟨b, ys, rfl, h2, r2⟩ := rp_lst ry
  have l1 := r1.length
  have l2 := r2.length
  exact ⟨a, b, xs, ys, rfl, rfl, h1, h2, Nat.le_of_lt (small1000 (by omega)), fun p hp => q _ _ (same_new hp) (.lst (offS_new f hp) ((r1.append r2).mono (offS_mono (same_new hp))))⟩
theorem e_catT (ha : EvD ta σ F (.tuple ds)) (hb : EvD tb σ F (.tuple es)) (hl : ds.length + es.length ≤ 1000) : EvD (tOp (rCatA K) ta tb) σ F (.tuple (ds ++ es)) := e_op ha hb fun S H x y f rx ry Q q => by
  obtain ⟨a, xs, rfl, h1, r1⟩ := rp_tup rx
  obtain ⟨b, ys, rfl, h2, r2⟩ := rp_tup ry
  have l1 := r1.length
  have l2 := r2.length
  refine ⟨a, b, xs, ys, rfl, rfl, .inl (.inl h1), .inl (.inl h2), Nat.le_of_lt (small1000 (by omega)), fun z => ?_, fun z1 z2 => ?_, fun _ _ p hp => q _ _ (same_new hp) (.tup (offS_new f hp) ((r1.append r2).mono (offS_mono (same_new hp))))⟩
  · subst z
    have : ds = [] := List.eq_nil_of_length_eq_zero (by simpa using l1.symm)
    subst this
    exact q _ H (Same.refl _) ry
  · subst z2
    have : es = [] := List.eq_nil_of_length_eq_zero (by simpa using l2.symm)
    subst this
    rw [List.append_nil] at q
    exact q _ H (Same.refl _) rx
theorem rpa_rep {H : Hp} {xs : List V} (r : RpA H xs ds) : ∀ n : Nat, RpA H (List.replicate n xs).flatten (List.replicate n ds).flatten
  | 0 => .nil
  | n + 1 => by
    rw [List.replicate_succ, List.replicate_succ, List.flatten_cons, List.flatten_cons]
    exact r.append (rpa_rep r n)
theorem e_rep {k : Nat} (ha : EvD ta σ F (.list ds)) (hb : EvD tb σ F (.int (k : Int))) (hl : ds.length * k ≤ 1000) (hk : k < 2 ^ 62) : EvD (tOp rRep ta tb) σ F (.list (List.replicate k ds).flatten) := e_op ha hb fun S H x y f rx ry Q q => by
  obtain ⟨a, xs, rfl, h1, r1⟩ := rp_lst rx
  cases ry
  have l1 := r1.length
  refine ⟨a, _, xs, rfl, rfl, h1, by omega, by omega, ?_, fun p hp => q _ _ (same_new hp) (.lst (offS_new f hp) ((rpa_rep r1 k).mono (offS_mono (same_new hp))))⟩
  rw [l1]
  exact Nat.le_of_lt (small1000 hl)
theorem atI_of {xs : List V} {i : Int} {n : Nat} {x : V} (h : i = (n : Int)) (hx : xs[n]? = some x) : atI xs i = some x := L2.at_of h hx
theorem e_ixL {i : Int} {n : Nat} (ha : EvD ta σ F (.list ds)) (hb : EvD tb σ F (.int i)) (hi : i = (n : Int)) (hd : ds[n]? = some d) : EvD (tOp (rIxL K) ta tb) σ F d := e_op ha hb fun S H x y f rx ry Q q => by
  obtain ⟨a, xs, rfl, h1, r1⟩ := rp_lst rx
  cases ry
  obtain ⟨v, hv, rv⟩ := r1.at hd
  exact ⟨a, xs, i, v, rfl, rfl, .inl (.inl h1), atI_of hi hv, q _ H (Same.refl _) rv⟩
theorem e_ixT {i : Int} {n : Nat} (ha : EvD ta σ F (.tuple ds)) (hb : EvD tb σ F (.int i)) (hi : i = (n : Int)) (hd : ds[n]? = some d) : EvD (tOp (rIxT K) ta tb) σ F d := e_op ha hb fun S H x y f rx ry Q q => by
  obtain ⟨a, xs, rfl, h1, r1⟩ := rp_tup rx
  cases ry
  obtain ⟨v, hv, rv⟩ := r1.at hd
  exact ⟨a, xs, i, v, rfl, rfl, .inl (.inl h1), atI_of hi hv, q _ H (Same.refl _) rv⟩
/-! slices -/
theorem o_none : EvO tNoPart σ F none := fun S H1 f s Q q => q H1 (Same.refl _)
theorem o_some {i : Int} (h : EvD te σ F (.int i)) : EvO (tPart te) σ F (some i) := fun S H1 f s Q q => h S H1 f s _ fun v H2 s2 r => by
  cases r
  exact ⟨i, rfl, q H2 s2⟩
theorem e_sl {r : V → Option Int → Option Int → Hp → VK → Prop} {tl th : TO} {lo hi : Option Int} (ha : EvD ta σ F d) (hl : EvO tl σ F lo) (hh : EvO th σ F hi)
    (hr : ∀ (S : Addr → Bool) (H : Hp) (x : V), Fr S H → Rp (offS S H) x d → ∀ Q : VK, (∀ v H2, Same H H2 → P (offS S H2) v → Q v H2) → r x lo hi H Q) : EvP (tSl r ta tl th) σ F P := fun S H1 f s Q q =>
  ha S H1 f s _ fun x H2 s2 r2 => hl S H2 (f.mono s2) (s.trans (offS_mono s2)) _ fun H3 s3 => hh S H3 (f.mono (s2.trans s3)) (s.trans (offS_mono (s2.trans s3))) _ fun H4 s4 =>
    hr S H4 x (f.mono ((s2.trans s3).trans s4)) (r2.mono (offS_mono (s3.trans s4))) Q fun v H5 s5 p => q v H5 (((s2.trans s3).trans s4).trans s5) p
def cutD (ds : List PyData) (lo hi : Option Int) : List PyData := (ds.drop (HT.sIx ds.length 0 lo)).take (HT.sIx ds.length ds.length hi - HT.sIx ds.length 0 lo)
theorem rpa_cut {H : Hp} {xs : List V} {lo hi : Option Int} (r : RpA H xs ds) : RpA H (cutV xs lo hi) (cutD ds lo hi) := by
  unfold cutV cutD
  rw [r.length]
  exact (r.drop _).take _
theorem e_slL {tl th : TO} {lo hi : Option Int} (ha : EvD ta σ F (.list ds)) (hl : EvO tl σ F lo) (hh : EvO th σ F hi) : EvD (tSl (rSlL K) ta tl th) σ F (.list (cutD ds lo hi)) := e_sl ha hl hh fun S H x f rx Q q => by
  obtain ⟨a, xs, rfl, h1, r1⟩ := rp_lst rx
  exact ⟨a, xs, rfl, .inl (.inl h1), fun p hp => q _ _ (same_new hp) (.lst (offS_new f hp) ((rpa_cut r1).mono (offS_mono (same_new hp))))⟩
theorem e_slT {tl th : TO} {lo hi : Option Int} (ha : EvD ta σ F (.tuple ds)) (hl : EvO tl σ F lo) (hh : EvO th σ F hi) : EvD (tSl (rSlA K) ta tl th) σ F (.tuple (cutD ds lo hi)) := e_sl ha hl hh fun S H x f rx Q q => by
  obtain ⟨a, xs, rfl, h1, r1⟩ := rp_tup rx
  refine ⟨a, xs, rfl, .inl (.inl h1), fun z => ?_, fun _ p hp => q _ _ (same_new hp) (.tup (offS_new f hp) ((rpa_cut r1).mono (offS_mono (same_new hp))))⟩
  have e : cutD ds lo hi = ds := by
    unfold cutD
    rw [r1.length] at z
    rw [z.1, z.2]
    simp
  rw [e] at q
  exact q _ H (Same.refl _) rx
/-! bools, tests -/
theorem b_val {b : Bool} (h : EvD te σ F (.bool b)) : EvB (tB te) σ F b := fun S H1 f s Q q => h S H1 f s _ fun v H2 s2 r => by
  cases r
  exact ⟨b, rfl, q H2 s2⟩
theorem b_test {b : Bool} (h : EvD te σ F (.bool b)) : EvB (tTest te) σ F b := fun S H1 f s Q q => h S H1 f s _ fun v H2 s2 r => by
  cases r
  exact ⟨b, rfl, q H2 s2⟩
theorem b_yes : EvB tYes σ F true := fun S H1 f s Q q => q H1 (Same.refl _)
theorem b_not {b : Bool} (h : EvB tt σ F b) : EvB (tNot tt) σ F (!b) := fun S H1 f s Q q => h S H1 f s _ fun H2 s2 => q H2 s2
theorem b_and {a b : Bool} (h : EvB tt σ F a) (h2 : a = true → EvB tu σ F b) : EvB (tAnd tt tu) σ F (a && b) := fun S H1 f s Q q => h S H1 f s _ fun H2 s2 => by
  cases a with
  | true => exact h2 rfl S H2 (f.mono s2) (s.trans (offS_mono s2)) _ fun H3 s3 => q H3 (s2.trans s3)
  | false => exact q H2 s2
theorem b_or {a b : Bool} (h : EvB tt σ F a) (h2 : a = false → EvB tu σ F b) : EvB (tOr tt tu) σ F (a || b) := fun S H1 f s Q q => h S H1 f s _ fun H2 s2 => by
  cases a with
  | false => exact h2 rfl S H2 (f.mono s2) (s.trans (offS_mono s2)) _ fun H3 s3 => q H3 (s2.trans s3)
  | true => exact q H2 s2
theorem e_and {a b : Bool} (h : EvD ta σ F (.bool a)) (h2 : a = true → EvD tb σ F (.bool b)) : EvD (tAndV ta tb) σ F (.bool (a && b)) := fun S H1 f s Q q => h S H1 f s _ fun v H2 s2 r => by
  cases r
  refine ⟨a, rfl, ?_⟩
  cases a with
  | true => exact h2 rfl S H2 (f.mono s2) (s.trans (offS_mono s2)) _ fun v H3 s3 r3 => q v H3 (s2.trans s3) r3
  | false => exact q _ H2 s2 (.bl _)
theorem e_or {a b : Bool} (h : EvD ta σ F (.bool a)) (h2 : a = false → EvD tb σ F (.bool b)) : EvD (tOrV ta tb) σ F (.bool (a || b)) := fun S H1 f s Q q => h S H1 f s _ fun v H2 s2 r => by
  cases r
  refine ⟨a, rfl, ?_⟩
  cases a with
  | false => exact h2 rfl S H2 (f.mono s2) (s.trans (offS_mono s2)) _ fun v H3 s3 r3 => q v H3 (s2.trans s3) r3
  | true => exact q _ H2 s2 (.bl _)
theorem e_not {a : Bool} (h : EvD ta σ F (.bool a)) : EvD (tNotV ta) σ F (.bool (!a)) := fun S H1 f s Q q => h S H1 f s _ fun v H2 s2 r => by
  cases r
  exact ⟨a, rfl, q _ H2 s2 (.bl _)⟩
theorem e_ifP {b : Bool} (h : EvB tt σ F b) (h1 : b = true → EvP ta σ F P) (h2 : b = false → EvP tb σ F P) : EvP (tIf tt ta tb) σ F P := fun S H1 f s Q q => h S H1 f s _ fun H2 s2 => by
  cases b with
  | true => exact h1 rfl S H2 (f.mono s2) (s.trans (offS_mono s2)) _ fun v H3 s3 r3 => q v H3 (s2.trans s3) r3
  | false => exact h2 rfl S H2 (f.mono s2) (s.trans (offS_mono s2)) _ fun v H3 s3 r3 => q v H3 (s2.trans s3) r3
/-! membership -/
theorem ints_flat (ns : List Int) : (ns.map V.int).all flatV = true := by
  induction ns with
  | nil => rfl
  | cons n ns ih => rw [List.map_cons, List.all_cons, ih]; rfl
theorem inV_ints (n : Int) (ns : List Int) : inV (.int n) (ns.map V.int) = ns.contains n := by
  unfold inV
  induction ns with
  | nil => rfl
  | cons m ns ih =>
    rw [List.map_cons, List.any_cons, ih, List.contains_cons]
    have e : eqV (.int m) (.int n) = (n == m) := by
      have e1 : eqV (.int m) (.int n) = (m == n) := by simp [eqV]
      rw [e1]
      exact Bool.eq_iff_iff.mpr ⟨fun z => beq_iff_eq.mpr (beq_iff_eq.mp z).symm, fun z => beq_iff_eq.mpr (beq_iff_eq.mp z).symm⟩
    rw [e]
theorem ints_rp {H : Hp} : ∀ {xs : List V} {ns : List Int}, RpA H xs (ns.map PyData.int) → xs = ns.map V.int
  | _, [], r => by cases r; rfl
  | _, n :: ns, r => by
    cases r with
    | cons h q =>
      cases h
      rw [ints_rp q]
      rfl
theorem rp_ints {H : Hp} : ∀ ns : List Int, RpA H (ns.map V.int) (ns.map PyData.int)
  | [] => .nil
  | n :: ns => .cons (.int n) (rp_ints ns)
theorem e_inT {n : Int} {ns : List Int} (ha : EvD ta σ F (.int n)) (hb : EvD tb σ F (.tuple (ns.map .int))) : EvD (tOp (rIn K false) ta tb) σ F (.bool (ns.contains n)) := e_op ha hb fun S H x y f rx ry Q q => by
  cases rx
  obtain ⟨a, xs, rfl, h1, r1⟩ := rp_tup ry
  rw [ints_rp r1] at h1
  refine ⟨a, _, rfl, .inr (.inl (.inl h1)), rfl, ints_flat ns, q _ H (Same.refl _) ?_⟩
  show Rp (offS S H) (.bl (inV (.int n) (ns.map V.int))) _
  rw [inV_ints]
  exact .bl _
theorem e_inL {n : Int} {ns : List Int} (ha : EvD ta σ F (.int n)) (hb : EvD tb σ F (.list (ns.map .int))) : EvD (tOp (rIn K false) ta tb) σ F (.bool (ns.contains n)) := e_op ha hb fun S H x y f rx ry Q q => by
  cases rx
  obtain ⟨a, xs, rfl, h1, r1⟩ := rp_lst ry
  rw [ints_rp r1] at h1
  refine ⟨a, _, rfl, .inl (.inl (.inl h1)), rfl, ints_flat ns, q _ H (Same.refl _) ?_⟩
  show Rp (offS S H) (.bl (inV (.int n) (ns.map V.int))) _
  rw [inV_ints]
  exact .bl _
/-! calls of built-ins and of defs -/
theorem e_cb {r : List V → Hp → VK → Prop} (h : EvA tas σ F ds)
    (hr : ∀ (S : Addr → Bool) (H : Hp) (vs : List V), Fr S H → RpA (offS S H) vs ds → ∀ Q : VK, (∀ v H2, Same H H2 → P (offS S H2) v → Q v H2) → r vs H Q) : EvP (tCB r tas) σ F P := fun S H1 f s Q q =>
  h S H1 f s _ fun vs H2 s2 r2 => hr S H2 vs (f.mono s2) r2 Q fun v H4 s4 p => q v H4 (s2.trans s4) p
theorem rpa1 {H : Hp} {vs : List V} (r : RpA H vs [d]) : ∃ v, vs = [v] ∧ Rp H v d := by
  cases r with
  | cons h q =>
    cases q
    exact ⟨_, rfl, h⟩
theorem rpa2 {H : Hp} {vs : List V} {d1 d2 : PyData} (r : RpA H vs [d1, d2]) : ∃ v1 v2, vs = [v1, v2] ∧ Rp H v1 d1 ∧ Rp H v2 d2 := by
  cases r with
  | cons h q =>
    obtain ⟨v, rfl, h2⟩ := rpa1 q
    exact ⟨_, _, rfl, h, h2⟩
theorem rpa3 {H : Hp} {vs : List V} {d1 d2 d3 : PyData} (r : RpA H vs [d1, d2, d3]) : ∃ v1 v2 v3, vs = [v1, v2, v3] ∧ Rp H v1 d1 ∧ Rp H v2 d2 ∧ Rp H v3 d3 := by
  cases r with
  | cons h q =>
    obtain ⟨v, w, rfl, h2, h3⟩ := rpa2 q
    exact ⟨_, _, _, rfl, h, h2, h3⟩
theorem rpa4 {H : Hp} {vs : List V} {d1 d2 d3 d4 : PyData} (r : RpA H vs [d1, d2, d3, d4]) : ∃ v1 v2 v3 v4, vs = [v1, v2, v3, v4] ∧ Rp H v1 d1 ∧ Rp H v2 d2 ∧ Rp H v3 d3 ∧ Rp H v4 d4 := by
  cases r with
  | cons h q =>
    obtain ⟨v, w, u, rfl, h2, h3, h4⟩ := rpa3 q
    exact ⟨_, _, _, _, rfl, h, h2, h3, h4⟩
def rLenQ (K : PySem.W.Frag) : List V → Hp → VK → Prop := fun xs H Q => ∃ p ys, xs = [.ref p] ∧ (SqL K H p ys ∨ SqT K H p ys) ∧ Q (.int ys.length) H
theorem call_lenQ {X : Cx} : CallR X (.builtin "len") (rLenQ X.K) := call_len_seq
def rTupQ (K : PySem.W.Frag) : List V → Hp → VK → Prop := fun xs H Q => ∃ p ys, xs = [.ref p] ∧ ((SqL K H p ys ∧ ∀ l, H l = none → Q (.ref l) (upd H l (.tup ys))) ∨ (SqT K H p ys ∧ Q (.ref p) H))
theorem call_tupQ {X : Cx} : CallR X (.type "tuple") (rTupQ X.K) := call_tuple_of
def rLstQ (K : PySem.W.Frag) : List V → Hp → VK → Prop := fun xs H Q => ∃ p ys, xs = [.ref p] ∧ (SqL K H p ys ∨ SqT K H p ys) ∧ ∀ l, H l = none → Q (.ref l) (upd H l (.lst ys))
theorem call_lstQ {X : Cx} : CallR X (.type "list") (rLstQ X.K) := call_list_of
def rJoinQ (K : PySem.W.Frag) : V → List V → Hp → VK → Prop := fun x xs H Q => ∃ a p, ∃ ys : List PySem.Str, x = .str a ∧ xs = [.ref p] ∧ (SqL K H p (ys.map V.str) ∨ SqT K H p (ys.map V.str)) ∧ (ys.map (·.length)).sum + ys.length * a.length ≤ 16777216 ∧ Q (.str (Txt.join a ys)) H
theorem e_lenL (h : EvD ta σ F (.list ds)) : EvD (tCB (rLenQ K) (tCons ta tNil)) σ F (.int ds.length) := e_cb (a_cons h a_nil) fun S H vs f r Q q => by
  obtain ⟨v, rfl, r1⟩ := rpa1 r
  obtain ⟨a, xs, rfl, h1, r2⟩ := rp_lst r1
  refine ⟨a, xs, rfl, .inl (.inl (.inl h1)), q _ H (Same.refl _) ?_⟩
  rw [r2.length]
  exact .int _
theorem e_lenT (h : EvD ta σ F (.tuple ds)) : EvD (tCB (rLenQ K) (tCons ta tNil)) σ F (.int ds.length) := e_cb (a_cons h a_nil) fun S H vs f r Q q => by
  obtain ⟨v, rfl, r1⟩ := rpa1 r
  obtain ⟨a, xs, rfl, h1, r2⟩ := rp_tup r1
  refine ⟨a, xs, rfl, .inr (.inl (.inl h1)), q _ H (Same.refl _) ?_⟩
  rw [r2.length]
  exact .int _
theorem bools_rp {H : Hp} : ∀ {xs : List V} {bs : List Bool}, RpA H xs (bs.map PyData.bool) → xs = bs.map V.bl
  | _, [], r => by cases r; rfl
  | _, n :: ns, r => by
    cases r with
    | cons h q =>
      cases h
      rw [bools_rp q]
      rfl
theorem strs_rp {H : Hp} : ∀ {xs : List V} {bs : List PySem.Str}, RpA H xs (bs.map PyData.str) → xs = bs.map V.str
  | _, [], r => by cases r; rfl
  | _, n :: ns, r => by
    cases r with
    | cons h q =>
      cases h
      rw [strs_rp q]
      rfl
def truD : PyData → Bool
  | .bool b => b
  | _ => false
def intD : PyData → Int
  | .int i => i
  | _ => 0
def strD : PyData → PySem.Str
  | .str x => x
  | _ => PySem.Str.ofString ""
theorem of_bools : ∀ {ds : List PyData}, (∀ d ∈ ds, ∃ b, d = .bool b) → ds = (ds.map truD).map .bool
  | [], _ => rfl
  | d :: ds, h => by
    obtain ⟨b, rfl⟩ := h d (.head _)
    rw [List.map_cons, List.map_cons, ← of_bools fun e he => h e (.tail _ he)]
    rfl
theorem of_ints : ∀ {ds : List PyData}, (∀ d ∈ ds, ∃ i, d = .int i) → ds = (ds.map intD).map .int
  | [], _ => rfl
  | d :: ds, h => by
    obtain ⟨b, rfl⟩ := h d (.head _)
    rw [List.map_cons, List.map_cons, ← of_ints fun e he => h e (.tail _ he)]
    rfl
theorem of_strs : ∀ {ds : List PyData}, (∀ d ∈ ds, ∃ x, d = .str x) → ds = (ds.map strD).map .str
  | [], _ => rfl
  | d :: ds, h => by
    obtain ⟨b, rfl⟩ := h d (.head _)
    rw [List.map_cons, List.map_cons, ← of_strs fun e he => h e (.tail _ he)]
    rfl
theorem eqD (h : EvD te σ F d) (he : d = e) : EvD te σ F e := he ▸ h
theorem e_all (h : EvD ta σ F (.list ds)) (hb : ∀ d ∈ ds, ∃ b, d = .bool b) : EvD (tCB (rAll K) (tCons ta tNil)) σ F (.bool (ds.all truD)) := e_cb (a_cons h a_nil) fun S H vs f r Q q => by
  obtain ⟨v, rfl, r1⟩ := rpa1 r
  obtain ⟨a, xs, rfl, h1, r2⟩ := rp_lst r1
  rw [of_bools hb] at r2
  rw [bools_rp r2] at h1
  refine ⟨a, _, rfl, .inl (.inl h1), q _ H (Same.refl _) ?_⟩
  rw [List.all_map]
  exact .bl _
theorem e_any (h : EvD ta σ F (.list ds)) (hb : ∀ d ∈ ds, ∃ b, d = .bool b) : EvD (tCB (rAny K) (tCons ta tNil)) σ F (.bool (ds.any truD)) := e_cb (a_cons h a_nil) fun S H vs f r Q q => by
  obtain ⟨v, rfl, r1⟩ := rpa1 r
  obtain ⟨a, xs, rfl, h1, r2⟩ := rp_lst r1
  rw [of_bools hb] at r2
  rw [bools_rp r2] at h1
  refine ⟨a, _, rfl, .inl (.inl h1), q _ H (Same.refl _) ?_⟩
  rw [List.any_map]
  exact .bl _
theorem e_sum (h : EvD ta σ F (.list ds)) (hb : ∀ d ∈ ds, ∃ i, d = .int i) : EvD (tCB (rSum K) (tCons ta tNil)) σ F (.int (ds.map intD).sum) := e_cb (a_cons h a_nil) fun S H vs f r Q q => by
  obtain ⟨v, rfl, r1⟩ := rpa1 r
  obtain ⟨a, xs, rfl, h1, r2⟩ := rp_lst r1
  rw [of_ints hb] at r2
  rw [ints_rp r2] at h1
  exact ⟨a, _, rfl, .inl (.inl h1), q _ H (Same.refl _) (.int _)⟩
theorem e_inD {n : Int} (ha : EvD ta σ F (.int n)) (hb : EvD tb σ F (.tuple ds)) (hi : ∀ d ∈ ds, ∃ i, d = .int i) : EvD (tOp (rIn K false) ta tb) σ F (.bool ((ds.map intD).contains n)) := e_inT ha (eqD hb (by rw [← of_ints hi]))
theorem e_inDL {n : Int} (ha : EvD ta σ F (.int n)) (hb : EvD tb σ F (.list ds)) (hi : ∀ d ∈ ds, ∃ i, d = .int i) : EvD (tOp (rIn K false) ta tb) σ F (.bool ((ds.map intD).contains n)) := e_inL ha (eqD hb (by rw [← of_ints hi]))
theorem e_tupOf (h : EvD ta σ F (.list ds)) : EvD (tCB (rTupQ K) (tCons ta tNil)) σ F (.tuple ds) := e_cb (a_cons h a_nil) fun S H vs f r Q q => by
  obtain ⟨v, rfl, r1⟩ := rpa1 r
  obtain ⟨a, xs, rfl, h1, r2⟩ := rp_lst r1
  exact ⟨a, xs, rfl, .inl ⟨.inl (.inl h1), fun p hp => q _ _ (same_new hp) (.tup (offS_new f hp) (r2.mono (offS_mono (same_new hp))))⟩⟩
theorem e_strI {i : Int} (h : EvD ta σ F (.int i)) (hl : i.natAbs.log2 < 1920) : EvD (tCB (fun xs H Q => ∃ i, xs = [.int i] ∧ i.natAbs.log2 < 1920 ∧ Q (.str (toString i)) H) (tCons ta tNil)) σ F (.str (PySem.Str.ofString (toString i))) := e_cb (a_cons h a_nil) fun S H vs f r Q q => by
  obtain ⟨v, rfl, r1⟩ := rpa1 r
  cases r1
  exact ⟨i, rfl, hl, q _ H (Same.refl _) (.str _)⟩
/-- the promise of a def over data: R its arguments and its answer -/
def spR (R : List PyData → PyData → Prop) : Sp := fun vs H Q _ => ∃ (S : Addr → Bool) (ds : List PyData) (d : PyData), Fr S H ∧ RpA (offS S H) vs ds ∧ R ds d ∧ ∀ v H', Same H H' → Rp (offS S H') v d → Q v H'
theorem spR_len {R : List PyData → PyData → Prop} {n : Nat} (h : ∀ ds d, R ds d → ds.length = n) : ∀ vs H Q E, spR R vs H Q E → vs.length = n := fun vs H Q E ⟨S, ds, d, f, r, hr, _⟩ => by
  rw [r.length]
  exact h ds d hr
theorem e_call {R : List PyData → PyData → Prop} {E : XK} (h : EvA tas σ F ds) (hR : R ds d) : EvD (tCall (spR R) [] E tas) σ F d := fun S H1 f s Q q =>
  h S H1 f s _ fun vs H2 s2 r2 => ⟨S, ds, d, f.mono s2, by rw [List.append_nil]; exact r2, hR, fun v H3 s3 r3 => q v H3 (s2.trans s3) r3⟩
/-! comprehensions -/
def GtP (g : TG) (x : V) (σ : L2.St) (F : Hp) (C : L2.St → Prop) : Prop := ∀ (S : Addr → Bool) (H1 : Hp), Fr S H1 → Same F (offS S H1) → ∀ Q : L2.St → Hp → Prop, (∀ σ2, C σ2 → Q σ2 H1) → g x σ H1 Q
theorem g_name {i : Nat} {x : V} {C : L2.St → Prop} (h : C (σ.set i (some x))) : GtP (gName i) x σ F C := fun S H1 f s Q q => q _ h
theorem g_tup2 {i j : Nat} {x : V} {C : L2.St → Prop} {d1 d2 : PyData} (r : Rp F x (.tuple [d1, d2])) (h : ∀ v1 v2, Rp F v1 d1 → Rp F v2 d2 → C ((σ.set i (some v1)).set j (some v2))) :
    GtP (gTup K 2 (gCons (gName i) (gCons (gName j) gNil))) x σ F C := fun S H1 f s Q q => by
  cases r with
  | tup h1 r1 =>
    obtain ⟨v1, v2, rfl, r1, r2⟩ := rpa2 r1
    exact ⟨_, _, rfl, .inl (.inl (offS_same _ _ (s _ _ h1))), rfl, _, _, rfl, _, _, rfl, rfl, q _ (h v1 v2 r1 r2)⟩
theorem g_tup3 {i j k : Nat} {x : V} {C : L2.St → Prop} {d1 d2 d3 : PyData} (r : Rp F x (.tuple [d1, d2, d3])) (h : ∀ v1 v2 v3, Rp F v1 d1 → Rp F v2 d2 → Rp F v3 d3 → C (((σ.set i (some v1)).set j (some v2)).set k (some v3))) :
    GtP (gTup K 3 (gCons (gName i) (gCons (gName j) (gCons (gName k) gNil)))) x σ F C := fun S H1 f s Q q => by
  cases r with
  | tup h1 r1 =>
    obtain ⟨v1, v2, v3, rfl, r1, r2, r3⟩ := rpa3 r1
    exact ⟨_, _, rfl, .inl (.inl (offS_same _ _ (s _ _ h1))), rfl, _, _, rfl, _, _, rfl, _, _, rfl, rfl, q _ (h v1 v2 v3 r1 r2 r3)⟩
theorem g_tup4 {i j k l : Nat} {x : V} {C : L2.St → Prop} {d1 d2 d3 d4 : PyData} (r : Rp F x (.tuple [d1, d2, d3, d4])) (h : ∀ v1 v2 v3 v4, Rp F v1 d1 → Rp F v2 d2 → Rp F v3 d3 → Rp F v4 d4 → C ((((σ.set i (some v1)).set j (some v2)).set k (some v3)).set l (some v4))) :
    GtP (gTup K 4 (gCons (gName i) (gCons (gName j) (gCons (gName k) (gCons (gName l) gNil))))) x σ F C := fun S H1 f s Q q => by
  cases r with
  | tup h1 r1 =>
    obtain ⟨v1, v2, v3, v4, rfl, r1, r2, r3, r4⟩ := rpa4 r1
    exact ⟨_, _, rfl, .inl (.inl (offS_same _ _ (s _ _ h1))), rfl, _, _, rfl, _, _, rfl, _, _, rfl, _, _, rfl, rfl, q _ (h v1 v2 v3 v4 r1 r2 r3 r4)⟩
/-- a turn of a comprehension over what reads as d -/
abbrev Turn (g : TG) (tt : TT) (te : TE) (σ : L2.St) (vs : List Nat) (F : Hp) (d : PyData) (b : Bool) (e : PyData) : Prop :=
  ∀ x F1, Same F F1 → Rp F1 x d → GtP g x (wipe σ vs) F1 fun σ2 => wipe σ2 vs = wipe σ vs ∧ EvB tt σ2 F1 b ∧ (b = true → EvD te σ2 F1 e)
section
variable {α : Type} {enc : α → PyData} {as : List α} {b : α → Bool} {ev : α → PyData} {g : TG} {vs : List Nat}
abbrev LInv (S : Addr → Bool) (H0 : Hp) (D : Addr) (as : List α) (b : α → Bool) (ev : α → PyData) (i : Nat) (H' : Hp) : Prop :=
  Same H0 H' ∧ ∃ acc, H' D = some (.lst acc) ∧ RpA (offS (addS S D) H') acc (((as.take i).filter b).map ev)
theorem l_turn {S : Addr → Bool} {H0 : Hp} {D : Addr} {a : α} {i : Nat} {H' : Hp} {x : V} (fr : Fr S H0) (sF : Same F (offS S H0)) (hD : H0 D = none) (hz : as.length ≤ 1000) (hi : as[i]? = some a) (rx : Rp (offS S H0) x (enc a))
    (ht : Turn g tt te σ vs F (enc a) (b a) (ev a)) (inv : LInv S H0 D as b ev i H') :
    g x (wipe σ vs) H' fun σ2 H2 => wipe σ2 vs = wipe σ vs ∧ tt σ2 H2 fun c H3 => if c = true then te σ2 H3 fun y H4 => ∃ acc, H4 D = some (.lst acc) ∧ acc.length < sizeLine ∧
      LInv S H0 D as b ev (i + 1) (upd H4 D (.lst (acc ++ [y]))) else LInv S H0 D as b ev (i + 1) H3 := by
  obtain ⟨s, acc, hacc, ra⟩ := inv
  have f1 : Fr (addS S D) H' := (fr.mono s).add hacc trivial
  have hDo : offS S H0 D = none := by
    unfold offS
    split
    · rfl
    · exact hD
  have s1 : Same (offS S H0) (offS (addS S D) H') := addS_new hDo (offS_mono s)
  have e1 : as.take (i + 1) = as.take i ++ [a] := take_more hi
  refine ht x (offS (addS S D) H') (sF.trans s1) (rx.mono s1) (addS S D) H' f1 (Same.refl _) _ fun σ2 ⟨w, hb, he⟩ => ⟨w, hb (addS S D) H' f1 (Same.refl _) _ fun H3 s3 => ?_⟩
  cases hb2 : b a with
  | false =>
    refine ⟨s.trans s3, acc, s3 _ _ hacc, ?_⟩
    rw [e1, List.filter_append, List.map_append]
    have : [a].filter b = [] := by simp [hb2]
    rw [this, List.map_nil, List.append_nil]
    exact ra.mono (offS_mono s3)
  | true =>
    refine he hb2 (addS S D) H3 (f1.mono s3) (offS_mono s3) _ fun y H4 s4 r4 => ⟨acc, (s3.trans s4) _ _ hacc, ?_, same_mut (s.trans (s3.trans s4)) hD, _, upd_same, ?_⟩
    · have l1 := ra.length
      rw [List.length_map] at l1
      have l2 := List.length_filter_le b (as.take i)
      have l3 : (as.take i).length ≤ 1000 := by rw [List.length_take]; omega
      exact small1000 (by omega)
    · rw [e1, List.filter_append, List.map_append]
      have : [a].filter b = [a] := by simp [hb2]
      rw [this]
      exact ((ra.mono (offS_mono (s3.trans s4))).mono addS_upd).append (.cons (r4.mono addS_upd) .nil)
theorem l_fin {S : Addr → Bool} {H0 : Hp} {D : Addr} {H' : Hp} {n : Nat} (fr : Fr S H0) (hD : H0 D = none) (hn : n = as.length) (inv : LInv S H0 D as b ev n H') : Rp (offS S H') (.ref D) (.list ((as.filter b).map ev)) := by
  obtain ⟨s, acc, hacc, ra⟩ := inv
  rw [hn, List.take_length] at ra
  exact .lst (by rw [offS_at (fr.new hD)]; exact hacc) (ra.mono addS_off)
theorem l_get {H : Hp} {xs : List V} {i : Nat} {x : V} (r : RpA H xs (as.map enc)) (hx : xs[i]? = some x) : ∃ a, as[i]? = some a ∧ Rp H x (enc a) := by
  obtain ⟨d, hd, rx⟩ := r.get hx
  rw [List.getElem?_map] at hd
  cases ha : as[i]? with
  | none => rw [ha] at hd; cases hd
  | some a =>
    rw [ha] at hd
    cases hd
    exact ⟨a, rfl, rx⟩
theorem e_lcL {tl : TE} (hl : EvD tl σ F (.list (as.map enc))) (hz : as.length ≤ 1000) (ht : ∀ a ∈ as, Turn g tt te σ vs F (enc a) (b a) (ev a)) :
    EvD (tLc (iList K tl) g tt te vs) σ F (.list ((as.filter b).map ev)) := fun S H1 f s Q q => hl S H1 f s _ fun v H2 s2 r => by
  obtain ⟨a, xs, rfl, h1, r1⟩ := rp_lst r
  refine ⟨a, rfl, ⟨xs, .inl (.inl h1)⟩, fun D hD => ?_⟩
  have f2 := f.mono s2
  have sF := s.trans (offS_mono (S := S) s2)
  refine lc_list (LInv S H2 D as b ev) ⟨same_new hD, [], upd_same, .nil⟩ (fun i H' _ p => .inl (.inl (p.1 _ _ h1))) (fun i x H' hx inv => ?_) fun H' inv => q _ _ (s2.trans inv.1) (l_fin f2 hD (by rw [r1.length, List.length_map]) inv)
  obtain ⟨t, ht1, rx⟩ := l_get r1 hx
  exact l_turn f2 sF hD hz ht1 rx (ht t (List.mem_of_getElem? ht1)) inv
theorem e_lcT {tl : TE} (hl : EvD tl σ F (.tuple (as.map enc))) (hz : as.length ≤ 1000) (ht : ∀ a ∈ as, Turn g tt te σ vs F (enc a) (b a) (ev a)) :
    EvD (tLc (iTup K tl) g tt te vs) σ F (.list ((as.filter b).map ev)) := fun S H1 f s Q q => hl S H1 f s _ fun v H2 s2 r => by
  obtain ⟨a, xs, rfl, h1, r1⟩ := rp_tup r
  refine ⟨a, rfl, ⟨xs, .inl (.inl h1)⟩, fun D hD => ?_⟩
  have f2 := f.mono s2
  have sF := s.trans (offS_mono (S := S) s2)
  refine lc_tup (LInv S H2 D as b ev) ⟨same_new hD, [], upd_same, .nil⟩ (fun i H' _ p => .inl (.inl (p.1 _ _ h1))) (fun i x H' hx inv => ?_) fun H' inv => q _ _ (s2.trans inv.1) (l_fin f2 hD (by rw [r1.length, List.length_map]) inv)
  obtain ⟨t, ht1, rx⟩ := l_get r1 hx
  exact l_turn f2 sF hD hz ht1 rx (ht t (List.mem_of_getElem? ht1)) inv
end
/-- over range(n) -/
theorem e_lcR {ta : TA} {n : Nat} {b : Nat → Bool} {ev : Nat → PyData} {g : TG} {vs : List Nat} (hl : EvA ta σ F [.int (n : Int)]) (hz : n ≤ 1000) (ht : ∀ a, a < n → Turn g tt te σ vs F (.int (a : Int)) (b a) (ev a)) :
    EvD (tLc (iRng1 ta) g tt te vs) σ F (.list (((List.range n).filter b).map ev)) := fun S H1 f s Q q => hl S H1 f s _ fun v H2 s2 r => by
  obtain ⟨v1, rfl, r1⟩ := rpa1 r
  cases r1
  refine ⟨_, rfl, by omega, by omega, fun D hD => ?_⟩
  have f2 := f.mono s2
  have sF := s.trans (offS_mono (S := S) s2)
  have en : ((n : Nat) : Int).toNat = n := by omega
  refine lc_range (lo := 0) (n := ((n : Nat) : Int).toNat) (LInv S H2 D (List.range n) b ev) ⟨same_new hD, [], upd_same, .nil⟩ (fun i H' hi inv => ?_) fun H' inv => q _ _ (s2.trans inv.1) (l_fin f2 hD (by rw [en, List.length_range]) inv)
  have hi2 : i < n := by omega
  have e0 : (0 : Int) + (i : Int) = (i : Int) := by omega
  rw [e0]
  exact l_turn (as := List.range n) (enc := fun a : Nat => PyData.int (a : Int)) f2 sF hD (by rw [List.length_range]; exact hz) (List.getElem?_range hi2) (.int _) (ht i hi2) inv
/-! statements -/
variable {S : Addr → Bool} {H : Hp} {D : L2.Ends} {t u : TS}
theorem go_seq (h : t { D with nx := u D } σ H) : tSeq t u D σ H := h
theorem go_ret (f : Fr S H) (h : EvP te σ (offS S H) P) (k : ∀ v H', Same H H' → P (offS S H') v → D.rt v H') : tRet te D σ H := h S H f (Same.refl _) _ k
theorem go_set {i : Nat} (f : Fr S H) (h : EvP te σ (offS S H) P) (k : ∀ v H', Same H H' → Fr S H' → P (offS S H') v → D.nx (σ.set i (some v)) H') : tAsg te (gName i) D σ H := h S H f (Same.refl _) _ fun v H' s p => k v H' s (f.mono s) p
theorem go_if {b : Bool} (f : Fr S H) (h : EvB tt σ (offS S H) b) (k1 : b = true → ∀ H', Same H H' → Fr S H' → t D σ H') (k2 : b = false → ∀ H', Same H H' → Fr S H' → u D σ H') : tIfS tt t u D σ H := h S H f (Same.refl _) _ fun H' s => by
  cases b with
  | true => exact k1 rfl H' s (f.mono s)
  | false => exact k2 rfl H' s (f.mono s)
theorem go_ifT (f : Fr S H) (h : EvB tt σ (offS S H) true) (k1 : ∀ H', Same H H' → Fr S H' → t D σ H') : tIfS tt t u D σ H := go_if f h (fun _ => k1) fun z => by cases z
theorem go_ifF (f : Fr S H) (h : EvB tt σ (offS S H) false) (k1 : ∀ H', Same H H' → Fr S H' → u D σ H') : tIfS tt t u D σ H := go_if f h (fun z => by cases z) fun _ => k1
end
end Ca

set_option maxHeartbeats 4000000
namespace Ca
open PySem PySem.Spec PyProof.Rows L2
theorem cut_take (ds : List PyData) (k : Nat) : cutD ds none (some (k : Int)) = ds.take k := by
  unfold cutD
  rw [HT.sIx_none, HT.sIx_nat, Nat.sub_zero, List.drop_zero]
  rcases Nat.le_total k ds.length with h | h
  · rw [Nat.min_eq_left h]
  · rw [Nat.min_eq_right h, List.take_of_length_le (Nat.le_refl _), List.take_of_length_le h]
theorem cut_drop (ds : List PyData) (k : Nat) : cutD ds (some (k : Int)) none = ds.drop k := by
  unfold cutD
  rw [HT.sIx_none, HT.sIx_nat]
  rcases Nat.le_total k ds.length with h | h
  · rw [Nat.min_eq_left h, List.take_of_length_le (by rw [List.length_drop]; exact Nat.le_refl _)]
  · rw [Nat.min_eq_right h, List.drop_of_length_le (Nat.le_refl _), List.drop_of_length_le h, List.take_nil]
section
variable {K : PySem.W.Frag} {σ : L2.St} {ta tb tc te : TE} {tas : TA} {tt tu : TT} {d e : PyData} {ds es : List PyData} {P P2 : Hp → V → Prop}
variable {S : Addr → Bool} {H : Hp} {D : L2.Ends} {t u : TS} {g : TG}
theorem go_forR {n : Nat} (fr : Fr S H) (h : EvA tas σ (offS S H) [.int (n : Int)]) (hz : n < 2 ^ 62) (k : ∀ H1, Same H H1 → Fr S H1 → ∃ Pv : Nat → L2.St → Hp → Prop, Pv 0 σ H1 ∧
    (∀ i σ' H', i < n → Pv i σ' H' → g (.int (i : Int)) σ' H' fun σ2 H2 => t { D with nx := Pv (i + 1), ct := Pv (i + 1), bk := D.nx } σ2 H2) ∧ (∀ σ' H', Pv n σ' H' → D.nx σ' H')) : tFor (iRng1 tas) g t D σ H :=
  h S H fr (Same.refl _) _ fun vs H1 s1 r => by
    obtain ⟨v1, rfl, r1⟩ := rpa1 r
    cases r1
    obtain ⟨Pv, p0, ps, pd⟩ := k H1 s1 (fr.mono s1)
    have en : ((n : Nat) : Int).toNat = n := by omega
    refine ⟨_, rfl, by omega, by omega, for_range (lo := 0) (n := ((n : Nat) : Int).toNat) Pv p0 (fun i σ' H' hi p => ?_) fun σ' H' p => pd σ' H' ?_⟩
    · have e0 : (0 : Int) + (i : Int) = (i : Int) := by omega
      rw [e0]
      exact ps i σ' H' (by omega) p
    · rw [en] at p
      exact p
section
variable {α : Type} {enc : α → PyData} {as : List α}
theorem go_forL {tl : TE} (fr : Fr S H) (h : EvD tl σ (offS S H) (.list (as.map enc))) (k : ∀ H1, Same H H1 → Fr S H1 → ∃ Pv : Nat → L2.St → Hp → Prop, Pv 0 σ H1 ∧
    (∀ i σ' H', Pv i σ' H' → Fr S H' ∧ Same (offS S H1) (offS S H')) ∧
    (∀ i a x σ' H', as[i]? = some a → Rp (offS S H') x (enc a) → Pv i σ' H' → g x σ' H' fun σ2 H2 => t { D with nx := Pv (i + 1), ct := Pv (i + 1), bk := D.nx } σ2 H2) ∧
    (∀ σ' H', Pv as.length σ' H' → D.nx σ' H')) : tFor (iList K tl) g t D σ H :=
  h S H fr (Same.refl _) _ fun v H1 s1 r => by
    obtain ⟨Pv, p0, pk, ps, pd⟩ := k H1 s1 (fr.mono s1)
    cases r with
    | @lst a xs _ h1 r1 =>
      have hl : xs.length = as.length := by rw [r1.length, List.length_map]
      refine ⟨a, rfl, ⟨xs, .inl (.inl (offS_same _ _ h1))⟩, for_list (xs := xs) Pv p0 (fun i σ' H' _ p => .inl (.inl (offS_same _ _ ((pk i σ' H' p).2 _ _ h1)))) (fun i x σ' H' hx p => ?_) fun σ' H' p => pd σ' H' (by rw [hl] at p; exact p)⟩
      obtain ⟨t1, ht1, rx⟩ := l_get r1 hx
      exact ps i t1 x σ' H' ht1 (rx.mono (pk i σ' H' p).2) p
theorem go_forT {tl : TE} (fr : Fr S H) (h : EvD tl σ (offS S H) (.tuple (as.map enc))) (k : ∀ H1, Same H H1 → Fr S H1 → ∃ Pv : Nat → L2.St → Hp → Prop, Pv 0 σ H1 ∧
    (∀ i σ' H', Pv i σ' H' → Fr S H' ∧ Same (offS S H1) (offS S H')) ∧
    (∀ i a x σ' H', as[i]? = some a → Rp (offS S H') x (enc a) → Pv i σ' H' → g x σ' H' fun σ2 H2 => t { D with nx := Pv (i + 1), ct := Pv (i + 1), bk := D.nx } σ2 H2) ∧
    (∀ σ' H', Pv as.length σ' H' → D.nx σ' H')) : tFor (iTup K tl) g t D σ H :=
  h S H fr (Same.refl _) _ fun v H1 s1 r => by
    obtain ⟨Pv, p0, pk, ps, pd⟩ := k H1 s1 (fr.mono s1)
    cases r with
    | @tup a xs _ h1 r1 =>
      have hl : xs.length = as.length := by rw [r1.length, List.length_map]
      refine ⟨a, rfl, ⟨xs, .inl (.inl (offS_same _ _ h1))⟩, for_tup (xs := xs) Pv p0 (fun i σ' H' _ p => .inl (.inl (offS_same _ _ ((pk i σ' H' p).2 _ _ h1)))) (fun i x σ' H' hx p => ?_) fun σ' H' p => pd σ' H' (by rw [hl] at p; exact p)⟩
      obtain ⟨t1, ht1, rx⟩ := l_get r1 hx
      exact ps i t1 x σ' H' ht1 (rx.mono (pk i σ' H' p).2) p
end
theorem go_setS {i : Nat} (f : Fr S H) (h : EvP te σ (offS S H) P) (k : ∀ v H', Same H H' → Fr S H' → P (offS S H') v → u D (σ.set i (some v)) H') : tSeq (tAsg te (gName i)) u D σ H := go_set (D := { D with nx := u D }) f h k
theorem go_forRS {n : Nat} (fr : Fr S H) (h : EvA tas σ (offS S H) [.int (n : Int)]) (hz : n < 2 ^ 62) (k : ∀ H1, Same H H1 → Fr S H1 → ∃ Pv : Nat → L2.St → Hp → Prop, Pv 0 σ H1 ∧
    (∀ i σ' H', i < n → Pv i σ' H' → g (.int (i : Int)) σ' H' fun σ2 H2 => t { D with nx := Pv (i + 1), ct := Pv (i + 1), bk := u D } σ2 H2) ∧ (∀ σ' H', Pv n σ' H' → u D σ' H')) : tSeq (tFor (iRng1 tas) g t) u D σ H := go_forR (D := { D with nx := u D }) fr h hz k
section
variable {α : Type} {enc : α → PyData} {as : List α}
theorem go_forLS {tl : TE} (fr : Fr S H) (h : EvD tl σ (offS S H) (.list (as.map enc))) (k : ∀ H1, Same H H1 → Fr S H1 → ∃ Pv : Nat → L2.St → Hp → Prop, Pv 0 σ H1 ∧
    (∀ i σ' H', Pv i σ' H' → Fr S H' ∧ Same (offS S H1) (offS S H')) ∧
    (∀ i a x σ' H', as[i]? = some a → Rp (offS S H') x (enc a) → Pv i σ' H' → g x σ' H' fun σ2 H2 => t { D with nx := Pv (i + 1), ct := Pv (i + 1), bk := u D } σ2 H2) ∧
    (∀ σ' H', Pv as.length σ' H' → u D σ' H')) : tSeq (tFor (iList K tl) g t) u D σ H := go_forL (D := { D with nx := u D }) fr h k
end
theorem go_ifS {b : Bool} {t1 t2 : TS} (f : Fr S H) (h : EvB tt σ (offS S H) b) (k1 : b = true → ∀ H', Same H H' → Fr S H' → t1 { D with nx := u D } σ H') (k2 : b = false → ∀ H', Same H H' → Fr S H' → t2 { D with nx := u D } σ H') : tSeq (tIfS tt t1 t2) u D σ H := go_if (D := { D with nx := u D }) f h k1 k2
/-! data compared -/
mutual
def nd : PyData → Bool
  | .list ds => ndA ds
  | .tuple ds => ndA ds
  | .dict _ => false
  | _ => true
def ndA : List PyData → Bool
  | [] => true
  | d :: ds => nd d && ndA ds
end
mutual
theorem Rp.dp {H : Hp} : ∀ {d : PyData} {v : V}, nd d = true → Rp H v d → Dp K H v d
  | _, _, _, .non => .non
  | _, _, _, .bl b => .bl b
  | _, _, _, .int i => .int i
  | _, _, _, .str x => .str x
  | _, _, h, .lst h1 r => .lst (.inl (.inl h1)) (RpA.dp (by simpa [nd] using h) r)
  | _, _, h, .tup h1 r => .tup (.inl (.inl h1)) (RpA.dp (by simpa [nd] using h) r)
  | _, _, h, .dic h1 => by simp [nd] at h
theorem RpA.dp {H : Hp} : ∀ {ds : List PyData} {vs : List V}, ndA ds = true → RpA H vs ds → DpAll K H vs ds
  | _, _, _, .nil => .nil
  | _, _, h, .cons h1 r => by
    have h2 := h
    simp only [ndA, Bool.and_eq_true] at h2
    exact .cons (Rp.dp h2.1 h1) (RpA.dp h2.2 r)
end
def eqOk (d : PyData) : Bool := nd d && SeqAt.shaped d
theorem e_eqD {F : Hp} (ha : EvD ta σ F d) (hb : EvD tb σ F e) (h1 : eqOk d = true) (h2 : eqOk e = true) : EvD (tOp (rEqD K) ta tb) σ F (.bool (PyData.eqv d e)) := e_op ha hb fun S H x y f rx ry Q q => by
  unfold eqOk at h1 h2
  rw [Bool.and_eq_true] at h1 h2
  exact ⟨d, e, Rp.dp h1.1 (rx.mono offS_same), Rp.dp h2.1 (ry.mono offS_same), h1.2, h2.2, q _ H (Same.refl _) (.bl _)⟩
theorem e_neD {F : Hp} (ha : EvD ta σ F d) (hb : EvD tb σ F e) (h1 : eqOk d = true) (h2 : eqOk e = true) : EvD (tOp (rNeD K) ta tb) σ F (.bool (!PyData.eqv d e)) := e_op ha hb fun S H x y f rx ry Q q => by
  unfold eqOk at h1 h2
  rw [Bool.and_eq_true] at h1 h2
  exact ⟨d, e, Rp.dp h1.1 (rx.mono offS_same), Rp.dp h2.1 (ry.mono offS_same), h1.2, h2.2, q _ H (Same.refl _) (.bl _)⟩
/-! texts -/
theorem e_joinL {F : Hp} {x : PySem.Str} (ha : EvD ta σ F (.str x)) (hb : EvD tb σ F (.list ds)) (hs : ∀ d ∈ ds, ∃ y, d = .str y) (hl : ((ds.map strD).map (·.length)).sum + (ds.map strD).length * x.length ≤ 16777216) :
    EvD (tM1 (rJoinQ K) ta tb) σ F (.str (Txt.join x (ds.map strD))) := fun S H1 f s Q q =>
  ha S H1 f s _ fun v H2 s2 r2 => by
    cases r2
    refine ⟨⟨_, rfl⟩, hb S H2 (f.mono s2) (s.trans (offS_mono s2)) _ fun w H3 s3 r3 => ?_⟩
    obtain ⟨a, xs, rfl, h1, r1⟩ := rp_lst r3
    rw [of_strs hs] at r1
    rw [strs_rp r1] at h1
    exact ⟨x, a, _, rfl, rfl, .inl (.inl (.inl h1)), hl, q _ H3 (s2.trans s3) (.str _)⟩
end
end Ca

set_option maxHeartbeats 4000000
namespace Ca
open PySem PySem.Spec PyProof.Rows L2
section
variable {X : Cx} {K : PySem.W.Frag} {tg e o : Expr} {t to te : TE} {apos pos : Pos}
theorem pi_listQ (hK : X.K = K) (h : PE X e t) : PI X tg e (iList K t) := hK ▸ pi_list h
theorem pi_tupQ (hK : X.K = K) (h : PE X e t) : PI X tg e (iTup K t) := hK ▸ pi_tup h
theorem pe_joinQ (hK : X.K = K) (ho : PE X o to) (he : PE X e te) (hs : starEach [e] X.env = [(false, eval e X.env)] := by rfl) (hbase : attributeBase o "join" X.env (eval o X.env) = eval o X.env := by rfl) (hline : (apos.endLine == pos.line) = true := by rfl) :
    PE X (.Call (.Attribute o "join" apos) [e] [] pos) (tM1 (rJoinQ K) to te) := hK ▸ pe_join ho he hs hbase hline
end
/-! data that may be compared -/
structure Cq (k : Nat) (d : PyData) : Prop where
  n : nd d = true
  c : d.canLay0 = true
  p : d.depth ≤ k
theorem Cq.ok {k : Nat} {d : PyData} (h : Cq k d) (hk : k ≤ 64 := by decide) : eqOk d = true := by
  unfold eqOk SeqAt.shaped
  rw [h.n, h.c, decide_eq_true (Nat.le_trans h.p hk)]
  rfl
theorem Cq.mono {k m : Nat} {d : PyData} (h : Cq k d) (hk : k ≤ m) : Cq m d := ⟨h.n, h.c, Nat.le_trans h.p hk⟩
theorem cq_all {k : Nat} : ∀ {ds : List PyData}, (∀ d ∈ ds, Cq k d) → ndA ds = true ∧ PyData.canLayAll0 ds = true ∧ PyData.depthAll ds ≤ k
  | [], _ => ⟨rfl, rfl, Nat.zero_le _⟩
  | d :: ds, h => by
    obtain ⟨h1, h2, h3⟩ := cq_all fun e he => h e (.tail _ he)
    have z := h d (.head _)
    refine ⟨?_, ?_, ?_⟩
    · unfold ndA
      rw [z.n, h1]
      rfl
    · unfold PyData.canLayAll0
      rw [z.c, h2]
      rfl
    · unfold PyData.depthAll
      exact Nat.max_le.mpr ⟨z.p, h3⟩
theorem cq_lst {k : Nat} {ds : List PyData} (h : ∀ d ∈ ds, Cq k d) : Cq (k + 1) (.list ds) := by
  obtain ⟨h1, h2, h3⟩ := cq_all h
  refine ⟨by unfold nd; exact h1, by unfold PyData.canLay0; exact h2, by unfold PyData.depth; omega⟩
theorem cq_tup {k : Nat} {ds : List PyData} (h : ∀ d ∈ ds, Cq k d) : Cq (k + 1) (.tuple ds) := by
  obtain ⟨h1, h2, h3⟩ := cq_all h
  refine ⟨by unfold nd; exact h1, by unfold PyData.canLay0; exact h2, by unfold PyData.depth; omega⟩
theorem cq_int {k : Nat} (i : Int) : Cq k (.int i) := ⟨by simp [nd], by simp [PyData.canLay0], by simp [PyData.depth]⟩
theorem cq_bool {k : Nat} (b : Bool) : Cq k (.bool b) := ⟨by simp [nd], by simp [PyData.canLay0], by simp [PyData.depth]⟩
theorem cq_none {k : Nat} : Cq k .none := ⟨by simp [nd], by simp [PyData.canLay0], by simp [PyData.depth]⟩
theorem eqv_nil (ds : List PyData) : PyData.eqv (.list ds) (.list []) = ds.isEmpty := by
  cases ds with
  | nil => simp [PyData.eqv, PyData.eqvAll]
  | cons d ds => simp [PyData.eqv, PyData.eqvAll]
section
variable {K : PySem.W.Frag} {S : Addr → Bool} {H : Hp} {σ : L2.St} {x : V} {Q : L2.St → Hp → Prop} {i j k l : Nat} {d1 d2 d3 d4 : PyData}
theorem gg_tup2 (f : Fr S H) (r : Rp (offS S H) x (.tuple [d1, d2])) (h : ∀ v1 v2, Rp (offS S H) v1 d1 → Rp (offS S H) v2 d2 → Q ((σ.set i (some v1)).set j (some v2)) H) :
    gTup K 2 (gCons (gName i) (gCons (gName j) gNil)) x σ H Q := g_tup2 (C := fun σ2 => Q σ2 H) r h S H f (Same.refl _) Q fun _ c => c
theorem gg_tup3 (f : Fr S H) (r : Rp (offS S H) x (.tuple [d1, d2, d3])) (h : ∀ v1 v2 v3, Rp (offS S H) v1 d1 → Rp (offS S H) v2 d2 → Rp (offS S H) v3 d3 → Q (((σ.set i (some v1)).set j (some v2)).set k (some v3)) H) :
    gTup K 3 (gCons (gName i) (gCons (gName j) (gCons (gName k) gNil))) x σ H Q := g_tup3 (C := fun σ2 => Q σ2 H) r h S H f (Same.refl _) Q fun _ c => c
theorem gg_tup4 (f : Fr S H) (r : Rp (offS S H) x (.tuple [d1, d2, d3, d4])) (h : ∀ v1 v2 v3 v4, Rp (offS S H) v1 d1 → Rp (offS S H) v2 d2 → Rp (offS S H) v3 d3 → Rp (offS S H) v4 d4 → Q ((((σ.set i (some v1)).set j (some v2)).set k (some v3)).set l (some v4)) H) :
    gTup K 4 (gCons (gName i) (gCons (gName j) (gCons (gName k) (gCons (gName l) gNil)))) x σ H Q := g_tup4 (C := fun σ2 => Q σ2 H) r h S H f (Same.refl _) Q fun _ c => c
end
theorem filter_yes {α : Type} (as : List α) : as.filter (fun _ => true) = as := List.filter_eq_self.mpr fun _ _ => rfl
end Ca

set_option maxHeartbeats 4000000
namespace Ca
open PySem PySem.Spec PyProof.Rows L2
/-- J goes over what reads as es, at the facts F -/
def Iter (J : It) (F : Hp) (es : List PyData) : Prop := ∀ (S : Addr → Bool) (H : Hp) (i : Nat), Fr S H → Same F (offS S H) →
  (i < es.length → J.go i H ∧ ∀ x H', J.yld i H x H' → Same H H' ∧ ∃ d, es[i]? = some d ∧ Rp (offS S H') x d) ∧ (es.length ≤ i → J.stop i H)
/-- what is gone over reads as es -/
def ItP (wi : TI) (σ : L2.St) (F : Hp) (es : List PyData) : Prop := ∀ (S : Addr → Bool) (H1 : Hp), Fr S H1 → Same F (offS S H1) → ∀ R : It → Hp → Prop, (∀ J H2, Same H1 H2 → Iter J (offS S H2) es → R J H2) → wi σ H1 R
section
variable {K : PySem.W.Frag} {σ : L2.St} {F : Hp} {ta te tl : TE} {tas : TA} {tt tt1 : TT} {ds es : List PyData}
theorem it_list (h : EvD tl σ F (.list ds)) : ItP (iList K tl) σ F ds := fun S H1 f s R r => h S H1 f s _ fun v H2 s2 rv => by
  cases rv with
  | @lst a xs _ ha rx =>
    refine ⟨a, rfl, ⟨xs, .inl (.inl (offS_same _ _ ha))⟩, r _ H2 s2 fun S' H' i f' s' => ⟨fun hi => ?_, fun hi => ⟨xs, .inl (.inl (offS_same _ _ (s' _ _ ha))), by rw [rx.length]; exact hi⟩⟩⟩
    have q := offS_same _ _ (s' _ _ ha)
    have hx : i < xs.length := by rw [rx.length]; exact hi
    refine ⟨⟨xs, xs[i], .inl (.inl q), by simp [hx]⟩, fun x H'' y => ?_⟩
    obtain ⟨rfl, y⟩ := y
    obtain ⟨d, hd, rd⟩ := rx.get (y xs (.inl (.inl q)))
    exact ⟨Same.refl _, d, hd, rd.mono s'⟩
theorem it_tup (h : EvD tl σ F (.tuple ds)) : ItP (iTup K tl) σ F ds := fun S H1 f s R r => h S H1 f s _ fun v H2 s2 rv => by
  cases rv with
  | @tup a xs _ ha rx =>
    refine ⟨a, rfl, ⟨xs, .inl (.inl (offS_same _ _ ha))⟩, r _ H2 s2 fun S' H' i f' s' => ⟨fun hi => ?_, fun hi => ⟨xs, .inl (.inl (offS_same _ _ (s' _ _ ha))), by rw [rx.length]; exact hi⟩⟩⟩
    have q := offS_same _ _ (s' _ _ ha)
    have hx : i < xs.length := by rw [rx.length]; exact hi
    refine ⟨⟨xs, xs[i], .inl (.inl q), by simp [hx]⟩, fun x H'' y => ?_⟩
    obtain ⟨rfl, y⟩ := y
    obtain ⟨d, hd, rd⟩ := rx.get (y xs (.inl (.inl q)))
    exact ⟨Same.refl _, d, hd, rd.mono s'⟩
theorem it_rng {n : Nat} (h : EvA tas σ F [.int (n : Int)]) (hz : n < 2 ^ 62) : ItP (iRng1 tas) σ F ((List.range n).map fun i : Nat => .int (i : Int)) := fun S H1 f s R r => h S H1 f s _ fun vs H2 s2 rv => by
  obtain ⟨v1, rfl, r1⟩ := rpa1 rv
  cases r1
  have en : ((n : Nat) : Int).toNat = n := by omega
  refine ⟨_, rfl, by omega, by omega, r _ H2 s2 fun S' H' i f' s' => ⟨fun hi => ?_, fun hi => ?_⟩⟩
  · rw [List.length_map, List.length_range] at hi
    refine ⟨?_, fun x H'' y => ?_⟩
    · show i < ((n : Nat) : Int).toNat
      omega
    · obtain ⟨rfl, rfl⟩ := y
      refine ⟨Same.refl _, .int (i : Int), ?_, ?_⟩
      · rw [List.getElem?_map, List.getElem?_range hi]
        rfl
      · have e0 : (0 : Int) + (i : Int) = (i : Int) := by omega
        rw [e0]
        exact .int _
  · rw [List.length_map, List.length_range] at hi
    show ((n : Nat) : Int).toNat ≤ i
    omega
section
variable {α β : Type} {enc : α → PyData} {as : List α} {b : α → Bool} {ev : α → PyData} {g g1 : TG} {vs us : List Nat} {wi wj : TI}
/-- one for -/
theorem e_lcG (hi : ItP wi σ F (as.map enc)) (hz : as.length ≤ 1000) (ht : ∀ a ∈ as, Turn g tt te σ vs F (enc a) (b a) (ev a)) :
    EvD (tLc wi g tt te vs) σ F (.list ((as.filter b).map ev)) := fun S H1 f s Q q => hi S H1 f s _ fun J H2 s2 it D hD => by
  have f2 := f.mono s2
  have sF := s.trans (offS_mono (S := S) s2)
  refine ⟨fun i m H' => m = as.length - i ∧ i ≤ as.length ∧ LInv S H2 D as b ev i H', ⟨as.length, by simp, Nat.zero_le _, same_new hD, [], upd_same, .nil⟩, ?_⟩
  rintro i m H' ⟨rfl, hi, inv⟩
  have f3 : Fr S H' := f2.mono inv.1
  have jt := it S H' i f3 (offS_mono inv.1)
  rw [List.length_map] at jt
  by_cases hlt : i < as.length
  · obtain ⟨go, yl⟩ := jt.1 hlt
    refine .inr ⟨go, LInv S H2 D as b ev (i + 1), fun H'' p' => ⟨as.length - (i + 1), by omega, rfl, hlt, p'⟩, fun x H'' y => ?_⟩
    have ha : as[i]? = some as[i] := List.getElem?_eq_getElem hlt
    -- read the item off the list's own place
    obtain ⟨s3, acc, hacc, ra⟩ := inv
    have f4 : Fr (addS S D) H' := f3.add hacc trivial
    have hDo : offS S H2 D = none := by
      unfold offS
      split
      · rfl
      · exact hD
    have s1 : Same (offS S H2) (offS (addS S D) H') := addS_new hDo (offS_mono s3)
    have jt2 := it (addS S D) H' i f4 s1
    rw [List.length_map] at jt2
    obtain ⟨s5, d, hd, rx⟩ := (jt2.1 hlt).2 x H'' y
    rw [List.getElem?_map, ha] at hd
    cases hd
    have f5 := f4.mono s5
    have e1 : as.take (i + 1) = as.take i ++ [as[i]] := take_more ha
    refine ht as[i] (List.getElem_mem hlt) x (offS (addS S D) H'') ((sF.trans s1).trans (offS_mono s5)) rx (addS S D) H'' f5 (Same.refl _) _ fun σ2 ⟨w, hb, he⟩ => ⟨w, hb (addS S D) H'' f5 (Same.refl _) _ fun H3 s6 => ?_⟩
    have hacc3 := (s5.trans s6) _ _ hacc
    cases hb2 : b as[i] with
    | false =>
      refine ⟨s3.trans (s5.trans s6), acc, hacc3, ?_⟩
      rw [e1, List.filter_append, List.map_append]
      have : [as[i]].filter b = [] := by simp [hb2]
      rw [this, List.map_nil, List.append_nil]
      exact ra.mono (offS_mono (s5.trans s6))
    | true =>
      refine he hb2 (addS S D) H3 (f5.mono s6) (offS_mono s6) _ fun y H4 s7 r4 => ⟨acc, s7 _ _ hacc3, ?_, same_mut (s3.trans (s5.trans (s6.trans s7))) hD, _, upd_same, ?_⟩
      · have l1 := ra.length
        rw [List.length_map] at l1
        have l2 := List.length_filter_le b (as.take i)
        have l3 : (as.take i).length ≤ 1000 := by rw [List.length_take]; omega
        exact small1000 (by omega)
      · rw [e1, List.filter_append, List.map_append]
        have : [as[i]].filter b = [as[i]] := by simp [hb2]
        rw [this]
        exact ((ra.mono (offS_mono (s5.trans (s6.trans s7)))).mono addS_upd).append (.cons (r4.mono addS_upd) .nil)
  · exact .inl ⟨jt.2 (by omega), q _ _ (s2.trans inv.1) (l_fin f2 hD (by omega) inv)⟩
theorem go_forTS {S : Addr → Bool} {H : Hp} {D : L2.Ends} {t u : TS} {tl : TE} (fr : Fr S H) (h : EvD tl σ (offS S H) (.tuple (as.map enc))) (k : ∀ H1, Same H H1 → Fr S H1 → ∃ Pv : Nat → L2.St → Hp → Prop, Pv 0 σ H1 ∧
    (∀ i σ' H', Pv i σ' H' → Fr S H' ∧ Same (offS S H1) (offS S H')) ∧
    (∀ i a x σ' H', as[i]? = some a → Rp (offS S H') x (enc a) → Pv i σ' H' → g x σ' H' fun σ2 H2 => t { D with nx := Pv (i + 1), ct := Pv (i + 1), bk := u D } σ2 H2) ∧
    (∀ σ' H', Pv as.length σ' H' → u D σ' H')) : tSeq (tFor (iTup K tl) g t) u D σ H := go_forT (D := { D with nx := u D }) fr h k
/-- what is made so far -/
abbrev AccIs (S : Addr → Bool) (H0 : Hp) (D : Addr) (l : List PyData) (H' : Hp) : Prop := Same H0 H' ∧ ∃ acc, H' D = some (.lst acc) ∧ RpA (offS (addS S D) H') acc l
/-- two fors: the second one's items by the first one's -/
theorem e_lc2G {bs : α → List β} {enc1 : β → PyData} {c : α → β → Bool} {ev2 : α → β → PyData} (hi : ItP wi σ F (as.map enc)) (hz : (as.flatMap fun a => ((bs a).filter (c a)).map (ev2 a)).length ≤ 1000)
    (ht : ∀ a ∈ as, ∀ x F1, Same F F1 → Rp F1 x (enc a) → GtP g x (wipe σ vs) F1 fun σ2 => wipe σ2 vs = wipe σ vs ∧ EvB tt σ2 F1 true ∧ ItP wj σ2 F1 ((bs a).map enc1) ∧
      ∀ e ∈ bs a, ∀ y F2, Same F1 F2 → Rp F2 y (enc1 e) → GtP g1 y (wipe σ2 us) F2 fun σ3 => wipe σ3 us = wipe σ2 us ∧ EvB tt1 σ3 F2 (c a e) ∧ (c a e = true → EvD te σ3 F2 (ev2 a e))) :
    EvD (tLc2 wi g tt wj g1 tt1 te vs us) σ F (.list (as.flatMap fun a => ((bs a).filter (c a)).map (ev2 a))) := fun S H1 f s Q q => hi S H1 f s _ fun J H2 s2 it D hD => by
  have f2 := f.mono s2
  have sF := s.trans (offS_mono (S := S) s2)
  have hDo : offS S H2 D = none := by
    unfold offS
    split
    · rfl
    · exact hD
  have small : ∀ {l l2 : List PyData} {acc : List V} {H : Hp}, RpA H acc l → l.length < (l ++ l2).length → (l ++ l2).length ≤ 1000 → acc.length < sizeLine := fun {l l2 acc H} r h1 h2 => by
    have := r.length
    exact small1000 (by omega)
  let G : α → List PyData := fun a => ((bs a).filter (c a)).map (ev2 a)
  refine ⟨fun i m H' => m = as.length - i ∧ i ≤ as.length ∧ AccIs S H2 D ((as.take i).flatMap G) H', ⟨as.length, by simp, Nat.zero_le _, same_new hD, [], upd_same, .nil⟩, ?_⟩
  rintro i m H' ⟨rfl, hi, inv⟩
  have f3 : Fr S H' := f2.mono inv.1
  have jt := it S H' i f3 (offS_mono inv.1)
  rw [List.length_map] at jt
  by_cases hlt : i < as.length
  · obtain ⟨go, yl⟩ := jt.1 hlt
    refine .inr ⟨go, AccIs S H2 D ((as.take (i + 1)).flatMap G), fun H'' p' => ⟨as.length - (i + 1), by omega, rfl, hlt, p'⟩, fun x H'' y => ?_⟩
    have ha : as[i]? = some as[i] := List.getElem?_eq_getElem hlt
    obtain ⟨s3, acc, hacc, ra⟩ := inv
    have f4 : Fr (addS S D) H' := f3.add hacc trivial
    have s1 : Same (offS S H2) (offS (addS S D) H') := addS_new hDo (offS_mono s3)
    have jt2 := it (addS S D) H' i f4 s1
    rw [List.length_map] at jt2
    obtain ⟨s5, d, hd, rx⟩ := (jt2.1 hlt).2 x H'' y
    rw [List.getElem?_map, ha] at hd
    cases hd
    generalize hA : as[i] = a at rx
    have ham : a ∈ as := by rw [← hA]; exact List.getElem_mem hlt
    have f5 := f4.mono s5
    have e1 : (as.take (i + 1)).flatMap G = (as.take i).flatMap G ++ G a := by
      rw [take_more ha, List.flatMap_append, hA]
      simp
    have whole : ((as.take i).flatMap G ++ G a).length ≤ 1000 := by
      refine Nat.le_trans ?_ hz
      rw [← e1]
      have e2 : as = as.take (i + 1) ++ as.drop (i + 1) := (List.take_append_drop _ _).symm
      conv => rhs; rw [e2]
      rw [List.flatMap_append, List.length_append]
      exact Nat.le_add_right _ _
    refine ht a ham x (offS (addS S D) H'') ((sF.trans s1).trans (offS_mono s5)) rx (addS S D) H'' f5 (Same.refl _) _ fun σ2 ⟨w, hb, hj, he⟩ => ⟨w, hb (addS S D) H'' f5 (Same.refl _) _ fun H3 s6 => ?_⟩
    refine hj (addS S D) H3 (f5.mono s6) (offS_mono s6) _ fun J1 H4 s7 it1 => ?_
    have hacc4 := (s5.trans (s6.trans s7)) _ _ hacc
    have ra4 := ra.mono (offS_mono (S := addS S D) (s5.trans (s6.trans s7)))
    have f6 : Fr (addS S D) H4 := f5.mono (s6.trans s7)
    refine ⟨fun j k H' => k = (bs a).length - j ∧ j ≤ (bs a).length ∧ Same H2 H' ∧ Same (offS (addS S D) H4) (offS (addS S D) H') ∧ ∃ acc, H' D = some (.lst acc) ∧ RpA (offS (addS S D) H') acc ((as.take i).flatMap G ++ (((bs a).take j).filter (c a)).map (ev2 a)),
      ⟨(bs a).length, by simp, Nat.zero_le _, s3.trans (s5.trans (s6.trans s7)), Same.refl _, acc, hacc4, by simpa using ra4⟩, ?_⟩
    rintro j k H7 ⟨rfl, hj2, s8, s9, acc2, hacc2, ra2⟩
    have f7 : Fr (addS S D) H7 := (f2.mono s8).add hacc2 trivial
    have jt3 := it1 (addS S D) H7 j f7 s9
    rw [List.length_map] at jt3
    by_cases hjl : j < (bs a).length
    · obtain ⟨go1, yl1⟩ := jt3.1 hjl
      have hbj : (bs a)[j]? = some (bs a)[j] := List.getElem?_eq_getElem hjl
      refine .inr ⟨go1, fun H' => Same H2 H' ∧ Same (offS (addS S D) H4) (offS (addS S D) H') ∧ ∃ acc, H' D = some (.lst acc) ∧ RpA (offS (addS S D) H') acc ((as.take i).flatMap G ++ (((bs a).take (j + 1)).filter (c a)).map (ev2 a)), fun H'' p' => ⟨(bs a).length - (j + 1), by omega, rfl, hjl, p'⟩, fun y H8 yy => ?_⟩
      obtain ⟨s10, d, hd, ry⟩ := yl1 y H8 yy
      rw [List.getElem?_map, hbj] at hd
      cases hd
      have f8 := f7.mono s10
      have e3 : (bs a).take (j + 1) = (bs a).take j ++ [(bs a)[j]] := take_more hbj
      refine he _ (List.getElem_mem hjl) y (offS (addS S D) H8) ((offS_mono (s6.trans s7)).trans (s9.trans (offS_mono s10))) ry (addS S D) H8 f8 (Same.refl _) _ fun σ3 ⟨w3, hb3, he3⟩ => ⟨w3, hb3 (addS S D) H8 f8 (Same.refl _) _ fun H9 s11 => ?_⟩
      have hacc9 := (s10.trans s11) _ _ hacc2
      have ra9 := ra2.mono (offS_mono (S := addS S D) (s10.trans s11))
      have sn : Same (offS (addS S D) H4) (offS (addS S D) H9) := s9.trans (offS_mono (s10.trans s11))
      cases hc : c a (bs a)[j] with
      | false =>
        refine ⟨s8.trans (s10.trans s11), sn, acc2, hacc9, ?_⟩
        rw [e3, List.filter_append]
        have : [(bs a)[j]].filter (c a) = [] := by simp [hc]
        rw [this, List.append_nil]
        exact ra9
      | true =>
        have grow : (((bs a).take (j + 1)).filter (c a)).map (ev2 a) = (((bs a).take j).filter (c a)).map (ev2 a) ++ [ev2 a (bs a)[j]] := by
          rw [e3, List.filter_append, List.map_append]
          have : [(bs a)[j]].filter (c a) = [(bs a)[j]] := by simp [hc]
          rw [this]
          rfl
        refine he3 hc (addS S D) H9 (f8.mono s11) (offS_mono s11) _ fun y H10 s12 r10 => ⟨acc2, s12 _ _ hacc9, ?_, same_mut (s8.trans (s10.trans (s11.trans s12))) hD, (sn.trans (offS_mono s12)).trans addS_upd, _, upd_same, ?_⟩
        · have l1 := ra2.length
          have l2 : ((((bs a).take j).filter (c a)).map (ev2 a)).length ≤ (G a).length := by
            show _ ≤ (((bs a).filter (c a)).map (ev2 a)).length
            rw [List.length_map, List.length_map]
            have e4 : bs a = (bs a).take j ++ (bs a).drop j := (List.take_append_drop _ _).symm
            conv => rhs; rw [e4]
            rw [List.filter_append, List.length_append]
            omega
          rw [List.length_append] at l1 whole
          exact small1000 (by omega)
        · rw [grow, ← List.append_assoc]
          exact ((ra9.mono (offS_mono s12)).mono addS_upd).append (.cons (r10.mono addS_upd) .nil)
    · refine .inl ⟨jt3.2 (by omega), s8, acc2, hacc2, ?_⟩
      have ej : j = (bs a).length := by omega
      rw [ej, List.take_length] at ra2
      rw [e1]
      exact ra2
  · refine .inl ⟨jt.2 (by omega), q _ _ (s2.trans inv.1) ?_⟩
    obtain ⟨s3, acc, hacc, ra⟩ := inv
    have ei : i = as.length := by omega
    rw [ei, List.take_length] at ra
    exact .lst (by rw [offS_at (f2.new hD)]; exact hacc) (ra.mono addS_off)
end
end
end Ca

set_option maxHeartbeats 4000000
namespace Ca
open PySem PySem.Spec PyProof.Rows L2
def enD : Nat → List PyData → List PyData
  | _, [] => []
  | n, d :: ds => .tuple [.int (n : Int), d] :: enD (n + 1) ds
theorem enD_len : ∀ (ds : List PyData) (n : Nat), (enD n ds).length = ds.length
  | [], _ => rfl
  | d :: ds, n => by
    show (enD (n + 1) ds).length + 1 = _
    rw [enD_len ds, List.length_cons]
theorem enD_get : ∀ (ds : List PyData) (n i : Nat) {d : PyData}, ds[i]? = some d → (enD n ds)[i]? = some (.tuple [.int ((n + i : Nat) : Int), d])
  | [], _, _, _, h => by simp at h
  | e :: ds, n, 0, d, h => by
    cases (show some e = some d from h)
    rfl
  | e :: ds, n, i + 1, d, h => by
    have := enD_get ds (n + 1) i (d := d) (by simpa using h)
    show (enD (n + 1) ds)[i]? = _
    rw [this]
    congr 4
    omega
section
variable {K : PySem.W.Frag} {σ : L2.St} {F : Hp} {ta te tl : TE} {tas : TA} {ds : List PyData}
theorem it_enum (h : EvA tas σ F [.list ds]) : ItP (iEnum K tas) σ F (enD 0 ds) := fun S H1 f s R r => h S H1 f s _ fun vs H2 s2 rv => by
  obtain ⟨v1, rfl, r1⟩ := rpa1 rv
  cases r1 with
  | @lst a xs _ ha rx =>
    refine ⟨a, xs, rfl, .inl (.inl (offS_same _ _ ha)), r _ H2 s2 fun S' H' i f' s' => ⟨fun hi => ?_, fun hi => ⟨xs, .inl (.inl (offS_same _ _ (s' _ _ ha))), by rw [rx.length]; rw [enD_len] at hi; exact hi⟩⟩⟩
    rw [enD_len] at hi
    have q := offS_same _ _ (s' _ _ ha)
    have hx : i < xs.length := by rw [rx.length]; exact hi
    refine ⟨⟨xs, xs[i], .inl (.inl q), by simp [hx]⟩, fun x H'' y => ?_⟩
    obtain ⟨T, x1, rfl, hT, rfl, y⟩ := y
    obtain ⟨d, hd, rd⟩ := rx.get (y xs (.inl (.inl q)))
    have := enD_get ds 0 i hd
    rw [Nat.zero_add] at this
    refine ⟨same_new hT, _, this, .tup ?_ (.cons (.int _) (.cons ((rd.mono s').mono (offS_mono (same_new hT))) .nil))⟩
    rw [offS_at (f'.new hT), upd_same]
section
variable {α : Type} {enc : α → PyData} {as : List α} {g : TG} {S : Addr → Bool} {H : Hp} {D : L2.Ends} {t u : TS} {wi : TI}
theorem go_forG (fr : Fr S H) (h : ItP wi σ (offS S H) (as.map enc)) (k : ∀ H1, Same H H1 → Fr S H1 → ∃ Pv : Nat → L2.St → Hp → Prop, Pv 0 σ H1 ∧
    (∀ i σ' H', Pv i σ' H' → Fr S H' ∧ Same (offS S H1) (offS S H')) ∧
    (∀ i a x σ' H' H'', as[i]? = some a → Pv i σ' H' → Same H' H'' → Rp (offS S H'') x (enc a) → g x σ' H'' fun σ2 H2 => t { D with nx := Pv (i + 1), ct := Pv (i + 1), bk := D.nx } σ2 H2) ∧
    (∀ σ' H', Pv as.length σ' H' → D.nx σ' H')) : tFor wi g t D σ H := h S H fr (Same.refl _) _ fun J H1 s1 it => by
  obtain ⟨Pv, p0, pk, ps, pd⟩ := k H1 s1 (fr.mono s1)
  refine ⟨fun i m σ' H' => m = as.length - i ∧ i ≤ as.length ∧ Pv i σ' H', ⟨as.length, by simp, Nat.zero_le _, p0⟩, ?_⟩
  rintro i m σ' H' ⟨rfl, hi, p⟩
  obtain ⟨f', s'⟩ := pk i σ' H' p
  have jt := it S H' i f' s'
  rw [List.length_map] at jt
  by_cases hlt : i < as.length
  · obtain ⟨go, yl⟩ := jt.1 hlt
    refine .inr ⟨go, Pv (i + 1), fun σ2 H2 p' => ⟨as.length - (i + 1), by omega, rfl, hlt, p'⟩, fun x H'' y => ?_⟩
    obtain ⟨s2, d, hd, rx⟩ := yl x H'' y
    have ha : as[i]? = some as[i] := List.getElem?_eq_getElem hlt
    rw [List.getElem?_map, ha] at hd
    cases hd
    exact ps i as[i] x σ' H' H'' ha p s2 rx
  · have e : i = as.length := by omega
    subst e
    exact .inl ⟨jt.2 (Nat.le_refl _), pd σ' H' p⟩
theorem go_forGS (fr : Fr S H) (h : ItP wi σ (offS S H) (as.map enc)) (k : ∀ H1, Same H H1 → Fr S H1 → ∃ Pv : Nat → L2.St → Hp → Prop, Pv 0 σ H1 ∧
    (∀ i σ' H', Pv i σ' H' → Fr S H' ∧ Same (offS S H1) (offS S H')) ∧
    (∀ i a x σ' H' H'', as[i]? = some a → Pv i σ' H' → Same H' H'' → Rp (offS S H'') x (enc a) → g x σ' H'' fun σ2 H2 => t { D with nx := Pv (i + 1), ct := Pv (i + 1), bk := u D } σ2 H2) ∧
    (∀ σ' H', Pv as.length σ' H' → u D σ' H')) : tSeq (tFor wi g t) u D σ H := go_forG (D := { D with nx := u D }) fr h k
end
/-! sorted of data -/
def srtD (ds : List PyData) : List PyData := ds.mergeSort (PySem.W.dataLe false id)
theorem zipV {H : Hp} : ∀ {xs : List V} {ds : List PyData}, RpA H xs ds → ∃ bs : List (V × PyData), bs.map Prod.fst = xs ∧ bs.map Prod.snd = ds ∧ ∀ b ∈ bs, Rp H b.1 b.2
  | _, _, .nil => ⟨[], rfl, rfl, fun b h => by cases h⟩
  | _, _, .cons (v := v) (d := d) h r => by
    obtain ⟨bs, e1, e2, e3⟩ := zipV r
    refine ⟨(v, d) :: bs, by rw [List.map_cons, e1], by rw [List.map_cons, e2], fun b hb => ?_⟩
    rcases List.mem_cons.mp hb with z | z
    · rw [z]
      exact h
    · exact e3 b z
theorem unzipV {H : Hp} : ∀ {bs : List (V × PyData)}, (∀ b ∈ bs, Rp H b.1 b.2) → RpA H (bs.map Prod.fst) (bs.map Prod.snd)
  | [], _ => .nil
  | b :: bs, h => .cons (h b (.head _)) (unzipV fun c hc => h c (.tail _ hc))
theorem srt_snd (bs : List (V × PyData)) : (sortD bs).map Prod.snd = srtD (bs.map Prod.snd) := PySem.W.sort_maps Prod.snd fun a _ b _ => rfl
theorem e_sortD (h : EvD ta σ F (.list ds)) (hal : PySem.W.AllAlike ds) (hso : PySem.W.Sortable ds) (hdp : ∀ d ∈ ds, d.depth ≤ 60) (hl : ds.length ≤ 1000) : EvD (tCB rSortD (tCons ta tNil)) σ F (.list (srtD ds)) := fun S H1 f s Q q =>
  h S H1 f s _ fun v H2 s2 r => by
    cases r with
    | @lst a xs _ ha rx =>
      obtain ⟨bs, rfl, rfl, rb⟩ := zipV rx
      rw [List.length_map] at hl
      refine ⟨a, bs, rfl, .inl (offS_same _ _ ha), fun b hb => (rb b hb).mono offS_same, hal, hso, fun b hb => hdp _ (List.mem_map.mpr ⟨b, hb, rfl⟩), Nat.le_of_lt (small1000 hl), fun p hp => q _ _ (s2.trans (same_new hp)) (.lst (offS_new (f.mono s2) hp) ?_)⟩
      rw [← srt_snd]
      refine RpA.mono (offS_mono (same_new hp)) (unzipV fun b hb => rb b ?_)
      unfold sortD at hb
      exact (List.mem_mergeSort.mp hb)
theorem srt_head {ds : List PyData} {d : PyData} {es : List PyData} (h : srtD ds = d :: es) : d ∈ ds ∧ ∀ e ∈ ds, PySem.W.dataLt e d = false := by
  have tot : PySem.W.TotalLe (PySem.W.dataLe false (id : PyData → PyData)) := PySem.W.sortLe_total _ _ _
  have pw := PySem.W.sort_pairwise tot ds
  have mem : ∀ e, e ∈ srtD ds ↔ e ∈ ds := fun e => List.mem_mergeSort
  refine ⟨(mem d).mp (by rw [h]; exact .head _), fun e he => ?_⟩
  have pw2 : (srtD ds).Pairwise (fun a b => PySem.W.dataLe false id a b = true) := pw
  rw [h, List.pairwise_cons] at pw2
  have le : PySem.W.dataLe false id d e = true := by
    rcases List.mem_cons.mp (by rw [← h]; exact (mem e).mpr he : e ∈ d :: es) with z | z
    · rw [z]
      exact tot.refl d
    · exact pw2.1 e z
  have : (!PySem.W.dataLt e d) = true := le
  simpa using this
end
end Ca

set_option maxHeartbeats 4000000
namespace TM
open PySem PySem.Spec PyProof.Rows L2
/-! sets of tuples of ints and texts: adding, and how many there are -/
abbrev Ky (P : Program) (w : World) (h : Heap) (k : List Key) (b : Addr) : Prop := IsTupleKey (mixKind P w) h k b
abbrev hs1 (P : Program) (w : World) (k : List Key) : Int := tupleKeyHash (mixKind P w) k
abbrev ent (P : Program) (w : World) (r : Addr × List Key) : Int × Value := (hs1 P w r.2, Value.ref r.1)
section
variable {P : Program} {w : World} {A : Around} {E : Value → Shared → Prop} {s : Shared}
/-- what lies in a key is an int or a text -/
def Calm (v : Value) : Prop := (∀ n, ofAClassStatement n v = pure false) ∧ ∀ n, hashByValue n v = pure true ∨ hashByValue n v = pure false
theorem calm_of {k : Key} {v : Value} (h : (mixKind P w).is k v = true) : Calm v := by
  cases v with
  | int i t => exact ⟨fun n => ofAClass_int n i t, fun n => .inl (hashBy_int n i t)⟩
  | str x t => exact ⟨fun n => by cases n <;> rfl, fun n => .inr (by cases n <;> rfl)⟩
  | _ => cases k <;> exact absurd h (by first | (intro z; exact Bool.noConfusion z) | decide)
theorem calm_all {k : List Key} {vs : List Value} (h : ItemsAre (mixKind P w) k vs) : ∀ v ∈ vs, Calm v := by
  induction h with
  | nil => exact fun v z => nomatch z
  | cons h1 _ ih =>
    intro v z
    cases z with
    | head => exact calm_of h1
    | tail _ z => exact ih v z
theorem noClass {k : List Key} {b : Addr} {Q : Bool → Shared → Prop} (key : Ky P w s.heap k b) (q : Q false s) : wpAny (model P w) A (ofAClassStatement 8 (.ref b)) Q E s := by
  have ty := key.typeIs
  obtain ⟨o, its, n, at_, _, dat, all⟩ := key
  unfold ofAClassStatement
  refine wpAny_bind (wpAny_typeOf ty ?_)
  dsimp only
  have tt : (("tuple" : String) == "tuple") = true := by decide
  simp only [tt, if_true, Bool.not_true, Bool.false_eq_true, if_false]
  try refine wpAny_bind (wpAny_pure ?_)
  try simp only [Bool.not_true, Bool.false_eq_true, if_false]
  show wpAny _ _ (seqItems? (.ref b) >>= _) _ _ s
  refine wpAny_bind (wpAny_seqItems at_ dat ?_)
  dsimp only
  refine wpAny_bind ?_
  show wpAny _ _ (forIn its _ _) _ _ s
  rw [← Array.forIn_toList]
  refine wpAny_forIn_list _ (fun more r s1 => r.1 = none ∧ s1 = s ∧ ∀ v ∈ more, Calm v) _ ?_ ?_ _ _ ⟨rfl, rfl, calm_all all⟩
  · rintro v more r s1 ⟨_, rfl, c⟩
    rw [(c v (.head _)).1]
    refine wpAny_bind (wpAny_pure ?_)
    simp only [Bool.false_eq_true, if_false]
    exact wpAny_pure ⟨rfl, rfl, fun u z => c u (.tail _ z)⟩
  · rintro ⟨r1, r2⟩ s1 ⟨z, rfl, _⟩
    simp only at z
    subst z
    exact wpAny_pure q
theorem anyHash {k : List Key} {b : Addr} {Q : Bool → Shared → Prop} (key : Ky P w s.heap k b) (q : ∀ c, Q c s) : wpAny (model P w) A (hashByValue 8 (.ref b)) Q E s := by
  have ty := key.typeIs
  obtain ⟨o, its, n, at_, _, dat, all⟩ := key
  unfold hashByValue
  refine wpAny_bind (wpAny_specialOf ty F.slot_tuple_hash.lookup ?_)
  show wpAny _ _ (seqItems? (.ref b) >>= _) _ _ s
  refine wpAny_bind (wpAny_seqItems at_ dat ?_)
  refine wpAny_bind ?_
  show wpAny _ _ (forIn its _ _) _ _ s
  rw [← Array.forIn_toList]
  refine wpAny_forIn_list _ (fun more r s1 => r.1 = none ∧ s1 = s ∧ ∀ v ∈ more, Calm v) _ ?_ ?_ _ _ ⟨rfl, rfl, calm_all all⟩
  · rintro v more r s1 ⟨_, rfl, c⟩
    rcases (c v (.head _)).2 7 with e | e
    · rw [e]
      refine wpAny_bind (wpAny_pure ?_)
      simp only [Bool.not_true, Bool.false_eq_true, if_false]
      exact wpAny_pure ⟨rfl, rfl, fun u z => c u (.tail _ z)⟩
    · rw [e]
      refine wpAny_bind (wpAny_pure ?_)
      simp only [Bool.not_false, if_true]
      exact wpAny_pure (wpAny_pure (q _))
  · rintro ⟨r1, r2⟩ s1 ⟨z, rfl, _⟩
    simp only at z
    subst z
    exact wpAny_pure (q _)
/-- nobody sees the search -/
theorem unseen {k : List Key} {b : Addr} {Q : Bool → Shared → Prop} (key : Ky P w s.heap k b) {ys : List Value} (others : ∀ y ∈ ys, ∃ m c, y = Value.ref c ∧ Ky P w s.heap m c) (q : Q false s) :
    wpAny (model P w) A (searchCouldBeSeen (.ref b) ys) Q E s := by
  unfold searchCouldBeSeen
  refine wpAny_bind ?_
  refine wpAny_forIn_list _ (fun more r s1 => r.1 = none ∧ s1 = s ∧ ∀ y ∈ more, ∃ m c, y = Value.ref c ∧ Ky P w s.heap m c) _ ?_ ?_ _ _ ⟨rfl, rfl, others⟩
  · rintro v more r s1 ⟨_, rfl, c⟩
    obtain ⟨m, d, rfl, kd⟩ := c v (.head _)
    have c' : ∀ y ∈ more, ∃ m c, y = Value.ref c ∧ Ky P w s1.heap m c := fun u z => c u (.tail _ z)
    dsimp only
    by_cases same : (b == d || (carriedByValue (.ref b) && carriedByValue (.ref d))) = true
    · exact wp_if_pos same (wpAny_pure ⟨rfl, rfl, c'⟩)
    · refine wp_if_neg same (wpAny_bind (wpAny_eqIsQuiet_tuple key ?_))
      simp only [Bool.not_true, Bool.false_eq_true, if_false]
      refine wpAny_bind (wpAny_eqIsQuiet_tuple kd ?_)
      simp only [Bool.not_true, Bool.false_eq_true, if_false]
      refine wpAny_bind (noClass key ?_)
      simp only [Bool.false_eq_true, if_false]
      refine wpAny_bind (noClass kd ?_)
      simp only [Bool.false_eq_true, if_false]
      exact wpAny_pure ⟨rfl, rfl, c'⟩
  · rintro ⟨r1, r2⟩ s1 ⟨z, rfl, _⟩
    simp only at z
    subst z
    exact wpAny_pure q
end
end TM

set_option maxHeartbeats 4000000
namespace TM
open PySem PySem.Spec PyProof.Rows L2
/-- the set at d has the rows rs -/
structure Bag (P : Program) (w : World) (h : Heap) (d : Addr) (rs : List (Addr × List Key)) (es : Array (Int × Value)) (ep : Nat) (t : SetTable) : Prop where
  here : ∃ o, h.get? d = some o ∧ o.ExactSet ∧ o.data = .set es ep t
  ents : es.toList = rs.map (ent P w)
  tab : TabOk t (rs.map fun r => hs1 P w r.2)
  dist : (rs.map Prod.snd).Nodup
  keys : ∀ r ∈ rs, Ky P w h r.2 r.1
  gap : rs.length * 5 < t.mask * 3
  led : (w.params.followText "set-order" = true) ∨ (t.led = true)
section
variable {P : Program} {w : World} {A : Around} {E : Value → Shared → Prop} {s : Shared} {d : Addr} {rs : List (Addr × List Key)} {es : Array (Int × Value)} {ep : Nat} {t : SetTable}
theorem ents_len (e : es.toList = rs.map (ent P w)) : es.size = rs.length := by
  rw [← Array.length_toList, e, List.length_map]
theorem Bag.len {h : Heap} (B : Bag P w h d rs es ep t) : es.size = rs.length := ents_len B.ents
theorem fits_of (h1 : t.place.size = es.size) (h2 : t.dummies = #[]) (h3 : es.size ≤ t.mask) : t.fits es.size = true := by
  unfold SetTable.fits SetTable.fill
  rw [h2, Bool.and_eq_true, beq_iff_eq, decide_eq_true_eq]
  exact ⟨h1, by rw [h1]; exact h3⟩
theorem Bag.fit {h : Heap} (B : Bag P w h d rs es ep t) : t.fits es.size = true := by
  have a := B.tab.sz
  have b := B.len
  have c := B.gap
  rw [List.length_map] at a
  exact fits_of (by omega) B.tab.dm (by omega)
theorem Bag.row {h : Heap} (B : Bag P w h d rs es ep t) {i : Nat} {r : Addr × List Key} (e : rs[i]? = some r) : es[i]? = some (ent P w r) := by
  rw [← Array.getElem?_toList, B.ents, List.getElem?_map, e]
  rfl
/-- the c-th place of the way of a hash -/
abbrev stp (t : SetTable) (x : Int) (c : Nat) : SetTable.Probe := nth t.mask (runAt t.mask (SetTable.bits x % (t.mask + 1)) (SetTable.bits x)) c
theorem stp_no (t : SetTable) (x : Int) : ∀ c, (stp t x c).dummy = none := by
  have : ∀ (c : Nat) (p : SetTable.Probe), p.dummy = none → (nth t.mask p c).dummy = none := fun c => by
    induction c with
    | zero => exact fun p z => z
    | succ c ih => exact fun p z => ih (adv t.mask p) (by unfold adv; split <;> exact z)
  exact fun c => this c _ rfl
theorem seek (B : Bag P w s.heap d rs es ep t) {x : Addr} {k : List Key} (key : Ky P w s.heap k x) (hu : A.units < cLine) {N : Nat} (short : N < 10 * SetTable.turns t.mask)
    (free : way t.mask (hs1 P w k) N ∉ t.place.toList) (busy : ∀ c, c < N → way t.mask (hs1 P w k) c ∈ t.place.toList) {Q : SetFound → Shared → Prop}
    (yes : k ∈ rs.map Prod.snd → Q (.there none) s) (no : k ∉ rs.map Prod.snd → Q (.free (way t.mask (hs1 P w k) N) false) s) :
    ∀ (g c : Nat) (from_ : Option SetTable.Probe), from_.getD (t.probeStart (hs1 P w k)) = stp t (hs1 P w k) c → c ≤ N → N < g + c →
      (∀ (i : Nat) r, rs[i]? = some r → r.2 = k → ∃ c', c ≤ c' ∧ c' < N ∧ t.place.toList[i]? = some (way t.mask (hs1 P w k) c')) →
      wpAny (model P w) A (setSearchFrom d (.ref x) (hs1 P w k) true g from_) Q E s
  | 0, c, _, _, h1, h2, _ => absurd h2 (by omega)
  | g + 1, c, from_, st, cN, gN, ahead => by
    obtain ⟨o, at_, ex, dat⟩ := B.here
    rw [setSearchFrom_succ]
    refine wpAny_bind (wpAny_setState_of at_ dat B.fit ?_)
    dsimp only
    have ng : ¬ t.gaveWay = true := by
      unfold SetTable.gaveWay
      rw [mask_odd B.tab.mok]
      decide
    refine wp_if_neg ng ?_
    try refine wpAny_bind (wpAny_pure ?_)
    have on : ∀ q, nth t.mask (stp t (hs1 P w k) c) q = stp t (hs1 P w k) (c + q) := fun q => (nth_add t.mask c _ q).symm
    have onj : ∀ q, (nth t.mask (stp t (hs1 P w k) c) q).j = way t.mask (hs1 P w k) (c + q) := fun q => congrArg SetTable.Probe.j (on q)
    have eN : c + (N - c) = N := by omega
    have hsh : ∀ (i : Nat) r, rs[i]? = some r → (es[i]?.map (·.1)).getD 0 = hs1 P w r.2 := fun i r e => by
      rw [B.row e]
      rfl
    rcases go_spec t B.tab.ris B.tab.dm (fun i => (es[i]?.map (·.1)).getD 0) (hs1 P w k) (10 * SetTable.turns t.mask) (N - c) _ (stp_no t (hs1 P w k) c) (by omega)
      (fun q z => by rw [onj]; exact busy (c + q) (by omega)) (by rw [onj, eN]; exact free) with ⟨q, i, lq, pi, hi, none_, goes⟩ | ⟨none_, goes⟩
    · have met : t.probe (fun i => (es[i]?.map (·.1)).getD 0) (hs1 P w k) (from_.getD (t.probeStart (hs1 P w k))) = some (.candidate (way t.mask (hs1 P w k) (c + q)) i (stp t (hs1 P w k) (c + (q + 1)))) := by
        rw [st, ← onj, ← on]
        exact goes
      rw [met]
      dsimp only
      rw [onj] at pi
      have il : i < rs.length := by
        have a := (List.getElem?_eq_some_iff.mp pi).1
        have b := B.tab.sz
        rw [List.length_map] at b
        rw [Array.length_toList] at a
        omega
      obtain ⟨r, er⟩ : ∃ r, rs[i]? = some r := ⟨_, List.getElem?_eq_getElem il⟩
      have mr := List.mem_of_getElem? er
      have go_on : wpAny (model P w) A (searchRest d (.ref x) (hs1 P w k) true g es t (way t.mask (hs1 P w k) (c + q)) i (stp t (hs1 P w k) (c + (q + 1)))) Q E s := by
        unfold searchRest
        rw [B.row er]
        dsimp only
        refine wpAny_bind (wpAny_holding (wpAny_eqBool_tuple hu (B.keys r mr) key ?_))
        refine wpAny_bind (wpAny_setState_of at_ dat B.fit ?_)
        dsimp only
        by_cases e : r.2 = k
        · exact wp_if_pos (by simp [e]) (wpAny_pure (yes (List.mem_map.mpr ⟨r, mr, e⟩)))
        · refine wp_if_neg (by simp [e]) ?_
          try refine wpAny_bind (wpAny_pure ?_)
          rw [sameMem]
          dsimp only
          have live := slot_live B.tab.ris pi
          simp only [if_true, live, B.row er]
          refine wpAny_bind (wpAny_isSame_ref_self (wpAny_bind (wpAny_pure ?_)))
          simp only [if_true]
          refine wp_if_neg (by simp [e]) ?_
          refine seek B key hu short free busy yes no g (c + (q + 1)) _ rfl (by omega) (by omega) fun i0 r0 e0 k0 => ?_
          obtain ⟨c', u1, u2, u3⟩ := ahead i0 r0 e0 k0
          refine ⟨c', ?_, u2, u3⟩
          have n1 : ¬ c' < c + q := fun z => none_ (c' - c) i0 (by omega) (by rw [onj, show c + (c' - c) = c' by omega]; exact u3) (by rw [hsh i0 r0 e0, k0])
          have n2 : c' ≠ c + q := fun z => by
            rw [z] at u3
            have l2 := slot_live B.tab.ris u3
            rw [live] at l2
            injection l2 with l2
            rw [← l2, er] at e0
            cases e0
            exact e k0
          omega
      by_cases hl : t.led = true
      · refine wp_if_neg (by simp [hl]) ?_
        try refine wpAny_bind (wpAny_pure ?_)
        exact go_on
      · refine wp_if_pos (by simp [hl]) (wpAny_bind (unseen key (fun y my => ?_) ?_))
        · obtain ⟨z, mz, ez⟩ := List.mem_map.mp my
          have mz2 : z ∈ es ∧ z.1 = hs1 P w k := by simpa using mz
          have mz3 : z ∈ es.toList := by simpa using mz2.1
          rw [B.ents] at mz3
          obtain ⟨r1, m1, e1⟩ := List.mem_map.mp mz3
          exact ⟨r1.2, r1.1, by rw [← ez, ← e1], B.keys r1 m1⟩
        · refine wp_if_neg (by decide) ?_
          try refine wpAny_bind (wpAny_pure ?_)
          exact go_on
    · have met : t.probe (fun i => (es[i]?.map (·.1)).getD 0) (hs1 P w k) (from_.getD (t.probeStart (hs1 P w k))) = some (.empty (way t.mask (hs1 P w k) N) none) := by
        have e : way t.mask (hs1 P w k) N = (nth t.mask (stp t (hs1 P w k) c) (N - c)).j := by rw [onj, eN]
        rw [st, e]
        exact goes
      rw [met]
      dsimp only
      refine wpAny_pure (no fun m => ?_)
      obtain ⟨r0, m0, k0⟩ := List.mem_map.mp m
      obtain ⟨i0, l0, e0⟩ := List.getElem_of_mem m0
      have e00 : rs[i0]? = some r0 := by rw [List.getElem?_eq_getElem l0, e0]
      obtain ⟨c', u1, u2, u3⟩ := ahead i0 r0 e00 k0
      exact none_ (c' - c) i0 (by omega) (by rw [onj, show c + (c' - c) = c' by omega]; exact u3) (by rw [hsh i0 r0 e00, k0])
theorem sought (B : Bag P w s.heap d rs es ep t) {x : Addr} {k : List Key} (key : Ky P w s.heap k x) (hu : A.units < cLine) {Q : SetFound → Shared → Prop} (yes : k ∈ rs.map Prod.snd → Q (.there none) s)
    (no : ∀ N, k ∉ rs.map Prod.snd → way t.mask (hs1 P w k) N ∉ t.place.toList → (∀ c, c < N → way t.mask (hs1 P w k) c ∈ t.place.toList) → Q (.free (way t.mask (hs1 P w k) N) false) s) :
    wpAny (model P w) A (setSearch d (.ref x) (hs1 P w k) true) Q E s := by
  have gap := B.gap
  obtain ⟨N, short, free, busy⟩ := B.tab.first (by rw [List.length_map]; omega) (hs1 P w k)
  have few : N < 100000 := by
    have : SetTable.turns t.mask ≤ 142 := by
      unfold SetTable.turns
      rcases B.tab.mok with e | e | e <;> omega
    omega
  unfold setSearch
  refine seek B key hu short free busy yes (fun z => no N z free busy) 100000 0 none rfl (Nat.zero_le _) (by omega) fun i r er kr => ?_
  have lr : (rs.map fun r => hs1 P w r.2)[i]? = some (hs1 P w k) := by
    rw [List.getElem?_map, er, ← kr]
    rfl
  have li : i < t.place.toList.length := by
    have a := (List.getElem?_eq_some_iff.mp er).1
    have b := B.tab.sz
    rw [List.length_map] at b
    rw [Array.length_toList]
    omega
  obtain ⟨c, hc, e⟩ := B.tab.before free lr (List.getElem?_eq_getElem li)
  exact ⟨c, Nat.zero_le _, hc, by rw [List.getElem?_eq_getElem li, e]⟩
end
end TM

set_option maxHeartbeats 4000000
namespace TM
open PySem PySem.Spec PyProof.Rows L2
section
variable {P : Program} {w : World} {A : Around} {E : Value → Shared → Prop} {s : Shared} {d : Addr} {rs : List (Addr × List Key)} {es : Array (Int × Value)} {ep : Nat} {t : SetTable}
/-- a key outlives a change of the set -/
theorem Ky.stays {h h' : Heap} {k : List Key} {b : Addr} {o : Obj} (key : Ky P w h k b) (at_ : h.get? d = some o) (dat : o.data = .set es ep t) (sb : Heap.SameBut d h h') : Ky P w h' k b := by
  obtain ⟨u, its, n, a1, a2, a3, a4⟩ := key
  refine ⟨u, its, n, (sb.2 b fun z => ?_).trans a1, a2, a3, a4⟩
  rw [z, at_] at a1
  cases a1
  rw [dat] at a3
  cases a3
/-- rows in another order -/
theorem in_order (e : es.toList = rs.map (ent P w)) {ord : List Nat} (pm : ord.Perm (List.range rs.length)) :
    ∃ rs' : List (Addr × List Key), ord.filterMap (fun i => es[i]?) = rs'.map (ent P w) ∧ rs'.Perm rs ∧ (rs'.map fun r => hs1 P w r.2) = ord.map fun i => (es.map (·.1)).getD i 0 := by
  have at_ : ∀ i (z : i < rs.length), es[i]? = some (ent P w rs[i]) := fun i z => by
    rw [← Array.getElem?_toList, e, List.getElem?_map, List.getElem?_eq_getElem z]
    rfl
  refine ⟨ord.filterMap fun i => rs[i]?, ?_, ?_, ?_⟩
  · rw [List.map_filterMap]
    congr 1
    funext i
    rw [← Array.getElem?_toList, e, List.getElem?_map]
  · have all : (List.range rs.length).filterMap (fun i => rs[i]?) = rs := by
      have : ∀ n, n ≤ rs.length → (List.range n).filterMap (fun i => rs[i]?) = rs.take n := fun n => by
        induction n with
        | zero => exact fun _ => by simp
        | succ n ih =>
          intro z
          rw [List.range_succ, List.filterMap_append, ih (by omega), Ca.take_more (List.getElem?_eq_getElem z)]
          congr 1
          simp [List.getElem?_eq_getElem (show n < rs.length from z)]
      have z := this rs.length (Nat.le_refl _)
      rw [List.take_length] at z
      exact z
    have := pm.filterMap fun i => rs[i]?
    rw [all] at this
    exact this
  · have : ∀ l : List Nat, (∀ i ∈ l, i < rs.length) → (l.filterMap fun i => rs[i]?).map (fun r => hs1 P w r.2) = l.map fun i => (es.map (·.1)).getD i 0 := fun l => by
      induction l with
      | nil => exact fun _ => rfl
      | cons i l ih =>
        intro z
        have li := z i (.head _)
        have g : (es.map (·.1)).getD i 0 = hs1 P w rs[i].2 := by
          have : (es.map (·.1))[i]? = some (hs1 P w rs[i].2) := by
            rw [Array.getElem?_map, at_ i li]
            rfl
          simp [Array.getD_eq_getD_getElem?, this]
        rw [List.filterMap_cons_some (List.getElem?_eq_getElem li), List.map_cons, List.map_cons, ih fun j m => z j (.tail _ m), g]
    exact this ord fun i m => List.mem_range.mp (pm.mem_iff.mp m)
/-- the table grows to 32 places -/
theorem grows {o : Obj} (at_ : s.heap.get? d = some o) (ex : o.ExactSet) (dat : o.data = .set es ep t) (ents : es.toList = rs.map (ent P w)) (sz : t.place.size = es.size) (dm : t.dummies = #[]) (fl : es.size ≤ t.mask)
    (dist : (rs.map Prod.snd).Nodup) (keys : ∀ r ∈ rs, Ky P w s.heap r.2 r.1) (l5 : rs.length = 5) (led : w.params.followText "set-order" = true ∨ t.led = true) {Q : Unit → Shared → Prop}
    (q : ∀ h' rs' es' ep' t', Heap.SameBut d s.heap h' → Bag P w h' d rs' es' ep' t' → rs'.Perm rs → Q () { s with heap := h' }) : wpAny (model P w) A (setRelay d (SetTable.grown 5)) Q E s := by
  have ln := ents_len ents
  obtain ⟨t', ord, e, pm, T, em, el, _, _⟩ := relaid_ok t (hs := es.map (·.1)) (wanted := SetTable.grown 5) (M := 31) (by rw [size_20]) (.inr (.inl rfl)) (by rw [Array.size_map, ln]; omega)
  rw [Array.size_map, ln] at pm
  obtain ⟨rs', r1, r2, r3⟩ := in_order ents pm
  rw [← r3] at T
  have r1' : (ord.filterMap (es[·]?)).toList = rs'.map (ent P w) := by
    rw [Array.toList_filterMap]
    exact r1
  have ln' : (ord.filterMap (es[·]?)).size = es.size := by rw [ents_len r1', r2.length_eq, ln]
  rw [setRelay_eq]
  refine wpAny_bind (wpAny_setState_of at_ dat (fits_of sz dm fl) ?_)
  dsimp only
  refine wp_if_neg (by rw [sizeLine_eq, size_20]; omega) ?_
  try refine wpAny_bind (wpAny_pure ?_)
  rw [e]
  dsimp only
  refine wpAny_bind (wp_if_neg (by rw [ln']; simp) ?_)
  try refine wpAny_bind (wpAny_pure ?_)
  refine wpAny_pure ?_
  dsimp only
  have sb : Heap.SameBut d s.heap (s.heap.update d (Obj.putSet (ord.filterMap (es[·]?)) t')) := Heap.SameBut.update ..
  refine wpAny_storeSet_of at_ dat (q _ rs' _ (ep + 1) t' sb ⟨⟨_, store_at at_ dat, ⟨ex.1, ex.2.1, ex.2.2⟩, rfl⟩, r1', T, (r2.map Prod.snd).nodup_iff.mpr dist, fun r m => (keys r (r2.mem_iff.mp m)).stays at_ dat sb, ?_, by rw [el]; exact led⟩ r2) (by rw [ln', ln, sizeLine_eq]; omega)
  rw [r2.length_eq, em]
  omega
theorem adds (B : Bag P w s.heap d rs es ep t) {x : Addr} {k : List Key} (key : Ky P w s.heap k x) (hu : A.units < cLine) (few : rs.length ≤ 16) {Q : Bool → Shared → Prop}
    (q : ∀ b h' rs' es' ep' t', Heap.SameBut d s.heap h' → Bag P w h' d rs' es' ep' t' → (k ∈ rs.map Prod.snd → rs' = rs) → (k ∉ rs.map Prod.snd → rs'.Perm ((x, k) :: rs)) → Q b { s with heap := h' }) :
    wpAny (model P w) A (setAddHashed d (.ref x) (hs1 P w k)) Q E s := by
  obtain ⟨o, at_, ex, dat⟩ := B.here
  have ln := B.len
  have gap := B.gap
  unfold setAddHashed
  refine wpAny_holding ?_
  rw [show (100000 : Nat) = 99999 + 1 from rfl, setAddHashedIn_succ]
  refine wpAny_bind (wpAny_setState_of at_ dat B.fit ?_)
  dsimp only
  refine wp_if_neg (by simp [byScan, Value.scannable]) ?_
  try refine wpAny_bind (wpAny_pure ?_)
  refine wpAny_bind (sought B key hu (fun m => ?_) fun N m free busy => ?_)
  · dsimp only
    exact wpAny_pure (q false s.heap rs es ep t (Heap.SameBut.refl d s.heap) B (fun _ => rfl) fun z => absurd m z)
  · dsimp only
    refine wpAny_bind (wpAny_setState_of at_ dat B.fit ?_)
    dsimp only
    obtain ⟨p1, p2, p3, p4, p5, _, _, _, p9⟩ := B.tab.put free busy
    generalize hpt : t.put (way t.mask (hs1 P w k) N) = pt at p1 p3 p4 p5 p9 ⊢
    obtain ⟨t1, p⟩ := pt
    dsimp only at p1 p3 p4 p5 p9 ⊢
    subst p1
    have rest : ∀ t2 : SetTable, t2.place = t1.place → t2.dummies = t1.dummies → t2.mask = t1.mask → t2.fill = t1.fill → t2.led = t1.led → TabOk t2 ((rs.map fun r => hs1 P w r.2).take (SetTable.below t.place (way t.mask (hs1 P w k) N)) ++ hs1 P w k :: (rs.map fun r => hs1 P w r.2).drop (SetTable.below t.place (way t.mask (hs1 P w k) N))) →
        wpAny (model P w) A (do
          storeSet d (SetTable.insertAt es (SetTable.below t.place (way t.mask (hs1 P w k) N)) (hs1 P w k, Value.ref x)) t2
          if !false && t2.tooFull then setRelay d (SetTable.grown (es.size + 1))
          return true) Q E s := by
      intro t2 e1 e2 e3 e4 e5 T2
      have led2 : w.params.followText "set-order" = true ∨ t2.led = true := by rw [e5, p5]; exact B.led
      have ins : (SetTable.insertAt es (SetTable.below t.place (way t.mask (hs1 P w k) N)) (hs1 P w k, Value.ref x)).toList = (rs.take (SetTable.below t.place (way t.mask (hs1 P w k) N)) ++ (x, k) :: rs.drop (SetTable.below t.place (way t.mask (hs1 P w k) N))).map (ent P w) := by
        rw [SetTable.toList_insertAt, B.ents, List.map_append, List.map_cons, List.map_take, List.map_drop]
      generalize SetTable.below t.place (way t.mask (hs1 P w k) N) = p at p2 T2 ins ⊢
      have pm : (rs.take p ++ (x, k) :: rs.drop p).Perm ((x, k) :: rs) := put_perm rs p (x, k)
      have hhs : ((rs.map fun r => hs1 P w r.2).take p ++ hs1 P w k :: (rs.map fun r => hs1 P w r.2).drop p) = (rs.take p ++ (x, k) :: rs.drop p).map fun r => hs1 P w r.2 := by
        rw [List.map_append, List.map_cons, List.map_take, List.map_drop]
      rw [hhs] at T2
      generalize rs.take p ++ (x, k) :: rs.drop p = rs1 at pm T2 ins
      generalize SetTable.insertAt es p (hs1 P w k, Value.ref x) = es1 at ins ⊢
      have l1 : rs1.length = rs.length + 1 := pm.length_eq
      have z1 : es1.size = rs.length + 1 := by rw [ents_len ins, l1]
      have dist1 : (rs1.map Prod.snd).Nodup := (pm.map Prod.snd).nodup_iff.mpr (List.nodup_cons.mpr ⟨m, B.dist⟩)
      have sb : Heap.SameBut d s.heap (s.heap.update d (Obj.putSet es1 t2)) := Heap.SameBut.update ..
      have at1 := store_at (es' := es1) (t' := t2) at_ dat
      refine wpAny_bind (wpAny_storeSet_of at_ dat ?_ (by rw [z1, sizeLine_eq]; omega))
      generalize s.heap.update d (Obj.putSet es1 t2) = h1 at sb at1 ⊢
      have keys1 : ∀ r ∈ rs1, Ky P w h1 r.2 r.1 := fun r mr => by
        rcases List.mem_cons.mp (pm.mem_iff.mp mr) with e | mr
        · rw [e]
          exact key.stays at_ dat sb
        · exact (B.keys r mr).stays at_ dat sb
      have sz1 : t2.place.size = es1.size := by
        have := T2.sz
        rw [List.length_map, l1] at this
        rw [this, z1]
      by_cases full : t2.tooFull = true
      · have f5 : (rs.length + 1) * 5 ≥ t.mask * 3 := by
          have z := full
          unfold SetTable.tooFull at z
          rw [decide_eq_true_eq, e4, p9, List.length_map, e3, p4] at z
          exact z
        have four : t.mask = 7 ∧ rs.length = 4 := by
          rcases B.tab.mok with e | e | e
          · exact ⟨e, by omega⟩
          · omega
          · omega
        have gr : SetTable.grown (es.size + 1) = SetTable.grown 5 := by rw [ln, four.2]
        rw [gr]
        refine wp_if_pos (by simp [full]) (wpAny_bind ?_)
        refine grows (s := { s with heap := h1 }) at1 ⟨ex.1, ex.2.1, ex.2.2⟩ rfl ins sz1 T2.dm (by rw [z1, e3, p4]; omega) dist1 keys1 (by omega) led2 fun h2 rs2 es2 ep2 t3 sb2 B2 pm2 => ?_
        exact wpAny_pure (q true h2 rs2 es2 ep2 t3 (sb.trans sb2) B2 (fun z => absurd z m) fun _ => pm2.trans pm)
      · refine wp_if_neg (by simp [full]) (wpAny_pure (q true h1 rs1 es1 (ep + 1) t2 sb ⟨⟨_, at1, ⟨ex.1, ex.2.1, ex.2.2⟩, rfl⟩, ins, T2, dist1, keys1, ?_, led2⟩ (fun z => absurd z m) fun _ => pm))
        have z := full
        unfold SetTable.tooFull at z
        rw [decide_eq_true_eq, e4, p9, List.length_map] at z
        rw [l1]
        omega
    have lit : ∀ b : Bool, TabOk (if b = true then t1 else { t1 with plain := false }) ((rs.map fun r => hs1 P w r.2).take (SetTable.below t.place (way t.mask (hs1 P w k) N)) ++ hs1 P w k :: (rs.map fun r => hs1 P w r.2).drop (SetTable.below t.place (way t.mask (hs1 P w k) N))) := fun b => by
      cases b with
      | true => exact p3
      | false => exact ⟨p3.ris, p3.dm, p3.sz, p3.mok, p3.bd, p3.reach⟩
    by_cases pl : t1.plain = true
    · refine wp_if_pos pl (wpAny_bind (anyHash key fun b => ?_))
      refine rest _ ?_ ?_ ?_ ?_ ?_ (lit b) <;> cases b <;> rfl
    · refine wp_if_neg pl (wpAny_bind (wpAny_pure ?_))
      exact rest t1 rfl rfl rfl rfl rfl p3
end
end TM

set_option maxHeartbeats 4000000
namespace TM
open PySem PySem.Spec PyProof.Rows L2
/-- the set, without the tuples themselves -/
def Bag0 (P : Program) (w : World) (h : Heap) (d : Addr) (rs : List (Addr × List Key)) : Prop := ∃ (es : Array (Int × Value)) (ep : Nat) (t : SetTable), (∃ o, h.get? d = some o ∧ o.ExactSet ∧ o.data = .set es ep t) ∧ es.toList = rs.map (ent P w) ∧
  TabOk t (rs.map fun r => hs1 P w r.2) ∧ (rs.map Prod.snd).Nodup ∧ rs.length * 5 < t.mask * 3 ∧ (w.params.followText "set-order" = true ∨ t.led = true)
theorem Bag.bare {P : Program} {w : World} {h : Heap} {d : Addr} {rs : List (Addr × List Key)} {es : Array (Int × Value)} {ep : Nat} {t : SetTable} (B : Bag P w h d rs es ep t) : Bag0 P w h d rs := ⟨es, ep, t, B.here, B.ents, B.tab, B.dist, B.gap, B.led⟩
def BagO (P : Program) (w : World) (d : Addr) (rs : List (Addr × List Key)) : HO := .ext fun h => Bag0 P w h d rs
theorem bag_new {P : Program} {w : World} {H : Hp} {h : Heap} {d : Addr} {rs : List (Addr × List Key)} (B : Bag0 P w h d rs) : ObjOk P w H h d (BagO P w d rs) := by
  have ⟨_, _, _, ⟨o, at_, _⟩, _⟩ := B
  refine ⟨B, ⟨o, at_⟩, fun h1 h2 p k => ?_⟩
  have ⟨es, ep, t, ⟨u, au, ru⟩, more⟩ := p
  exact ⟨es, ep, t, ⟨u, k u au, ru⟩, more⟩
theorem bag_fresh {P : Program} {w : World} {h : Heap} {d : Addr} (at_ : h.get? d = some (Ca.eSet w)) : Bag0 P w h d [] :=
  ⟨#[], 0, _, ⟨_, at_, ⟨rfl, rfl, rfl⟩, rfl⟩, rfl, ⟨List.Pairwise.nil, rfl, rfl, .inl rfl, (fun x z => nomatch z), (fun i y j z => by simp at z)⟩, List.nodup_nil, by show 0 * 5 < 7 * 3; decide, by
    (show _ ∨ (!w.params.followText "set-order") = true); cases w.params.followText "set-order" <;> simp⟩
section
variable {X : Cx}
/-- set.add of a tuple -/
theorem add_key {pins : List (Addr × Obj)} {σ : L2.St} {H : Hp} {s : Shared} {E : Value → Shared → Prop} {D x : Addr} {k : List Key} {rs : List (Addr × List Key)} {u : Value} {Q : Value → Shared → Prop} (I : Inv X pins σ H s) (hu : X.A.units + 1 < cLine)
    (hD : H D = some (BagO X.prog X.w D rs)) (few : rs.length ≤ 16) (hx : H x = some (.tup (k.map kV))) (hr : ∀ r ∈ rs, H r.1 = some (.tup (r.2.map kV))) (ru : RelV (.ref x) u)
    (q : ∀ rs' s', (k ∈ rs.map Prod.snd → rs' = rs) → (k ∉ rs.map Prod.snd → rs'.Perm ((x, k) :: rs)) → Inv X pins σ (upd H D (BagO X.prog X.w D rs')) s' → Q .none s') : wpAny (model X.prog X.w) X.A (call (.builtin "set.add") [.ref D, u]) Q E s := by
  cases ru
  obtain ⟨es, ep, t, ⟨o, at_, ex, dat⟩, ents, tab, dist, gap, led⟩ := (show Bag0 X.prog X.w s.heap D rs from (I.hok D _ hD).1)
  have kx : Ky X.prog X.w s.heap k x := key_of I.hok hx
  have B : Bag X.prog X.w s.heap D rs es ep t := ⟨⟨o, at_, ex, dat⟩, ents, tab, dist, fun r m => key_of I.hok (hr r m), gap, led⟩
  have ty : s.TypeIs (.ref D) "set" := ⟨o, at_, ex.1⟩
  refine wpAny_call_entry F.slot_set_add ty F.entry_set_add ?_ (F.args_set_add_2 _ _)
  unfold Builtin.«set.add» Builtin.Frozenset.oneOther
  simp only [List.isEmpty_nil, bind_assoc]
  unfold Builtin.Frozenset.addrOf setAdd
  refine wpAny_bind (wpAny_pure ?_)
  try dsimp only
  refine wpAny_bind (wpAny_pure ?_)
  try dsimp only
  refine wpAny_bind (wpAny_holding (wpAny_bind (wpAny_pyHash_tuple hu kx ?_)))
  refine adds (s := { s with toks := s.toks + (k.length + 1) }) B kx hu few fun b h' rs' es' ep' t' sb B' c1 c2 => ?_
  show wpAny _ _ (ret Value.none) _ _ _
  refine wpAny_pure ⟨_, rfl, q rs' _ c1 c2 ?_⟩
  obtain ⟨o', at', _⟩ := B'.here
  exact I.write (e := D) (t' := s.toks + (k.length + 1)) (by rw [hD]; trivial) (.inl rfl) (fun b u hb e => (sb.2 b hb).trans e) ⟨o', at'⟩ (bag_new B'.bare)
/-- {elt for .. in .. if ..}, elt a tuple of ints and texts: D the new set -/
def tSc1 (P : Program) (w : World) (wi : TI) (g : TG) (tt : TT) (te : TE) (vs : List Nat) : TE := fun σ H Q => wi σ H fun J H1 => ∀ D, H1 D = none → ∃ W : Nat → Nat → Hp → Prop, (∃ m, W 0 m (upd H1 D (BagO P w D []))) ∧ ∀ i m H, W i m H →
  (J.stop i H ∧ Q (.ref D) H) ∨ (J.go i H ∧ ∃ Nx : Hp → Prop, (∀ H', Nx H' → ∃ m', m' < m ∧ W (i + 1) m' H') ∧
    ∀ x H', J.yld i H x H' → g x (wipe σ vs) H' fun σ2 H2 => wipe σ2 vs = wipe σ vs ∧ tt σ2 H2 fun b H3 =>
      if b = true then te σ2 H3 fun y H4 => ∃ (a : Addr) (k : List Key) (rs : List (Addr × List Key)), y = .ref a ∧ H4 a = some (.tup (k.map kV)) ∧ H4 D = some (BagO P w D rs) ∧ rs.length ≤ 16 ∧ (∀ r ∈ rs, H4 r.1 = some (.tup (r.2.map kV))) ∧
        ∀ rs', (k ∈ rs.map Prod.snd → rs' = rs) → (k ∉ rs.map Prod.snd → rs'.Perm ((a, k) :: rs)) → Nx (upd H4 D (BagO P w D rs'))
      else Nx H3)
theorem pe_sc1 {elt a0 b0 : Expr} {c0 : List Expr} {scope : Scope} {own : List (PySem.Str × Nat)} {pos : Pos} {wi : TI} {g : TG} {tt : TT} {te : TE} (hu : X.A.units + 1 < cLine)
    (hc : X.calm = true) (hN : X.N.Nodup) (hi : PI X a0 b0 wi) (ok : BlkOk X.N X.env.scope scope own)
    (hg : ∀ (s : Shared) (H : Hp) (C : Addr) (cl : List (PySem.Str × Addr)) (fq : List Addr), PG (X.blk s H scope (compEnvC scope cl C X.env) fq) a0 g) (ht : ∀ (s : Shared) (H : Hp) (C : Addr) (cl : List (PySem.Str × Addr)) (fq : List Addr), PTs (X.blk s H scope (compEnvC scope cl C X.env) fq) c0 tt)
    (he : ∀ (s : Shared) (H : Hp) (C : Addr) (cl : List (PySem.Str × Addr)) (fq : List Addr), PE (X.blk s H scope (compEnvC scope cl C X.env) fq) elt te) (f0 : ∀ x, foldedSetIterable b0 X.env x = pure x := by intro _; rfl) :
    PE X (.SetComp elt [⟨a0, b0, c0, 0⟩] scope pos) (tSc1 X.prog X.w wi g tt te (own.map (·.2))) := by
  refine ⟨fun pins s σ H Q I h => ?_⟩
  rw [PpSet.eval_SetComp]
  have free : ∀ y ∈ scope.names, y.2 = .free → ∃ c, X.env.cells.lookup y.1 = some c := fun y hy e =>
    (ok.free y hy e).elim (fun k => I.ok.has _ (.inl k)) (fun k => I.ok.has _ (.inr k))
  refine wpAny_comprehension_free (use := none) rfl f0 (closure_ok free) ok.kind (fun y hy e => by rw [ok.uniq y hy, e]) ?_
  refine thn (hi.run pins s σ H _ I h) fun xv s1 hx => thn hx fun itv s2 h2 => ?_
  obtain ⟨it, fp, tn, J, H2, rfl, I2, T, st2, fpo, q⟩ := h2
  refine PpSet.newSet_ok (newEnv_comp ?_)
  generalize hD : s2.heap.objs.size = D
  obtain ⟨W, ⟨m0, w0⟩, turn⟩ := q D (I2.hok.fresh (Nat.le_of_eq hD))
  generalize hs3 : ({ s2 with heap := s2.heap.push (Ca.eSet X.w) } : Shared) = s3
  have e3 : s3.heap = s2.heap.push (Ca.eSet X.w) := by rw [← hs3]
  have I3 : Inv X pins σ (upd H2 D (BagO X.prog X.w D [])) s3 := by
    subst hs3 hD
    exact I2.laid (t' := s2.toks) (fun b o e => Heap.get?_push_of_some _ e) (Nat.le_refl _) (bag_new (bag_fresh (Heap.get?_push_size _ rfl)))
  have low : ∀ b ∈ fp, b < s2.heap.objs.size := fun b hb =>
    let ⟨_, e, _⟩ := T.obj _ _ st2 b hb
    Heap.lt_size e
  have fpo3 : ∀ b ∈ fp, FpOk X pins (upd H2 D (BagO X.prog X.w D [])) b ∧ b < s3.heap.objs.size := fun b hb => by
    have lt := low b hb
    refine ⟨⟨?_, (fpo b hb).2⟩, by rw [e3, Heap.size_push]; exact Nat.lt_succ_of_lt lt⟩
    rw [upd_ne (by subst hD; exact Nat.ne_of_lt lt)]
    exact (fpo b hb).1
  have st3 : tn 0 s3.heap := T.keep _ _ _ st2 fun b _ o e => by rw [e3]; exact Heap.get?_push_of_some _ e
  have I4 := block_start I3 ok hN fpo3
  generalize hcl : cellsFrom (s3.heap.objs.size + 1) scope.names (cloFrom X.env.cells scope.names []) = cl at I4 ⊢
  have qg := hg s3 (upd H2 D (BagO X.prog X.w D [])) s3.heap.objs.size cl fp
  have qt := ht s3 (upd H2 D (BagO X.prog X.w D [])) s3.heap.objs.size cl fp
  have qe := he s3 (upd H2 D (BagO X.prog X.w D [])) s3.heap.objs.size cl fp
  have non3 : ∀ b ∈ fp, (upd H2 D (BagO X.prog X.w D [])) b = none := fun b hb => (fpo3 b hb).1.1
  show codeAny _ _ (.compStart (.SetComp elt [⟨a0, b0, c0, 0⟩] scope pos) 0 (.ref it) (.ref D) (compEnvC scope cl s3.heap.objs.size X.env)) (compPost (model X.prog X.w) X.A X.xe none _ (.ref D) s3.heap.objs.size)
    { s3 with heap := pushCells (s3.heap.push { cls := .type "dict", data := .dict #[] }) scope.names }
  generalize hce : compEnvC scope cl s3.heap.objs.size X.env = ce at I4 qg qt qe ⊢
  have loc : ce.locals = s3.heap.objs.size := by subst hce; rfl
  generalize hH3 : upd H2 D (BagO X.prog X.w D []) = H3 at I3 I4 qg qt qe w0 non3 fpo3
  generalize hs4 : ({ s3 with heap := pushCells (s3.heap.push { cls := .type "dict", data := .dict #[] }) scope.names } : Shared) = s4 at I4 ⊢
  have st4 : tn 0 s4.heap := T.keep _ _ _ st3 fun b _ o e => by
    subst hs4
    exact pushCells_keeps _ _ _ _ (Heap.get?_push_of_some _ e)
  let Y : Cx := X.blk s3 H3 scope ce fp
  have okFp : ∀ {σ' : L2.St} {H' : Hp} {s' : Shared}, Inv Y [] σ' H' s' → (∀ b ∈ fp, H' b = none) → ∀ b ∈ fp, FpOk Y [] H' b := fun {σ' H' s'} K hn b hb =>
    ⟨hn b hb, (K.ok.exf b hb).1, K.ok.exfs b hb, .inl hb, fun x c e => (K.ok.exf b hb).2 x c e,
      fun p hp => absurd (show p ∈ ([] : List (Addr × Obj)) ++ [] from hp) (by simp)⟩
  generalize hvs : own.map (·.2) = vs at turn I4
  have loop : codeAny (model X.prog X.w) X.A (.compLoop (.SetComp elt [⟨a0, b0, c0, 0⟩] scope pos) 0 (.ref it) (.ref D) ce)
      (compPost (model X.prog X.w) X.A X.xe none (EP X pins σ Q) (.ref D) s3.heap.objs.size) s4 := by
    refine PpSet.compLoopS_any (fun n s' => ∃ i H', Inv Y [] (wipe σ vs) H' s' ∧ tn i s'.heap ∧ (∀ b ∈ fp, H' b = none) ∧ W i n H') ?_ m0 ⟨0, H3, I4, st4, non3, w0⟩
    rintro n s5 ⟨i, H5, I5, st5, n5, w5⟩
    rcases turn i n H5 w5 with ⟨stop, fin⟩ | ⟨go, Nx, hNx, step⟩
    · refine thnF (T.done Y rfl rfl rfl hc i [] s5 _ H5 (fun _ _ => False) I5 (okFp I5 n5) st5 stop) fun r s6 ⟨hr, I6⟩ => ?_
      subst hr
      have I7 : Inv X pins σ H5 s6 := I3.call' (ch := fp) I6.os I6.base I6.hok I6.bare fun b hb =>
        ⟨(fpo3 b hb).1.2.2.2.1, (fpo3 b hb).1.2.1, (fpo3 b hb).1.2.2.2.2.1, (fpo3 b hb).1.2.2.2.2.2⟩
      have nC : H5 s3.heap.objs.size = none := by
        have z : H5 ce.locals = none := I6.free
        rwa [loc] at z
      obtain ⟨m, hm, _⟩ := I6.loc
      have hm : s6.heap.Ns ce.locals m := hm
      rw [loc] at hm
      obtain ⟨z0, z1, z2, z3, z4, z5⟩ := I3.fpOk (Nat.le_refl _) nC
      refine ⟨m, hm, fun h'' sb => ⟨.ref D, H5, I7.turned (t' := s6.toks) (fun b o hb e => ?_) z0 z1 z3 z4 z5, rfl, fin⟩⟩
      exact (sb.2 b hb).trans e
    · refine thnF (T.item Y rfl rfl rfl hc i [] s5 _ H5 (fun _ _ => False) I5 (okFp I5 n5) st5 go) fun r s6 ⟨u, hr, h6⟩ => ?_
      subst hr
      refine thnF h6 fun _ s7 ⟨x, H7, I7, r7, y7, st7, n7⟩ => ?_
      refine thnF (qg.run _ s7 _ H7 x u _ (I7.pinned (okFp I7 n7) (T.obj _ _ st7)) r7 (step x H7 y7)) fun _ s8 ⟨σ8, H8, I8, w8, q8⟩ => ?_
      refine thnF (qt.run _ s8 σ8 H8 _ I8 q8) fun b s9 ⟨H9, I9, q9⟩ => ?_
      have close : ∀ {s' : Shared} {H' : Hp}, Inv Y ([] ++ pinsAt fp s7.heap) σ8 H' s' → Nx H' →
          ∃ m, m < n ∧ ∃ i H', Inv Y [] (wipe σ vs) H' s' ∧ tn i s'.heap ∧ (∀ b ∈ fp, H' b = none) ∧ W i m H' := fun {s' H'} K nx => by
        obtain ⟨m', hm, w'⟩ := hNx H' nx
        have held : ∀ b ∈ fp, ∀ o, s7.heap.get? b = some o → s'.heap.get? b = some o ∧ H' b = none := fun b hb o e =>
          let z := K.pin (b, o) (List.mem_append_right _ (List.mem_append_right _ (mem_pinsAt hb e)))
          ⟨z.1, z.2.1⟩
        refine ⟨m', hm, i + 1, H', (K.unpinned (pins := [])).weak (by rw [← w8, wipe_length]) (fun j v e => ?_), T.keep _ _ _ st7 fun b hb o e => (held b hb o e).1, fun b hb => ?_, w'⟩
        · rw [← w8] at e
          exact (wipe_some e).1
        · obtain ⟨o, e, _⟩ := T.obj _ _ st7 b hb
          exact (held b hb o e).2
      cases b with
      | false =>
        simp only [Bool.false_eq_true, if_false] at q9 ⊢
        exact close I9 q9
      | true =>
        simp only [if_true] at q9 ⊢
        refine thnF (qe.run _ s9 σ8 H9 _ I9 q9) fun z s10 ⟨yv, H10, I10, r10, a, k, rs, ey, ha, d10, few, hrs, nx⟩ => ?_
        subst ey
        exact add_key (X := Y) I10 hu d10 few ha hrs r10 fun rs' s11 c1 c2 I11 => close I11 (nx rs' c1 c2)
  exact PpSet.codeAny_compStart_set loop (T.self X.A 0 _ _ _ st4 loop)
/-- len of it -/
def rLenBag (P : Program) (w : World) : List V → Hp → VK → Prop := fun xs H Q => ∃ (a : Addr) (rs : List (Addr × List Key)), xs = [.ref a] ∧ H a = some (BagO P w a rs) ∧ rs.length ≤ 1000 ∧ Q (.int (rs.length : Nat)) H
theorem cr_lenBag : CallR X (.builtin "len") (rLenBag X.prog X.w) := by
  intro pins s σ H xs us Q I r h
  obtain ⟨a, rs, rfl, ha, few, q⟩ := h
  cases r with
  | cons r rr =>
    cases rr
    cases r
    obtain ⟨es, ep, t, ⟨o, at_, ex, dat⟩, ents, tab, dist, gap, led⟩ := (show Bag0 X.prog X.w s.heap a rs from (I.hok a _ ha).1)
    have ln := ents_len ents
    have sz := tab.sz
    rw [List.length_map] at sz
    refine call_len_set at_ ex dat (fits_of (by omega) tab.dm (by omega)) (by omega) ⟨.int (rs.length : Nat), H, (I.tok _).tok _, ⟨_, by rw [ln]⟩, q⟩
end
end TM

set_option maxHeartbeats 4000000
namespace TM
open PySem PySem.Spec PyProof.Rows L2 Ca
def kD : Key → PyData
  | .inl i => .int i
  | .inr x => .str x
theorem key_rp {H : Hp} : ∀ {k : List Key} {xs : List V}, RpA H xs (k.map kD) → xs = k.map kV
  | [], _, .nil => rfl
  | .inl i :: k, _, .cons h r => by
    cases h
    rw [key_rp r]
    rfl
  | .inr x :: k, _, .cons h r => by
    cases h
    rw [key_rp r]
    rfl
open Classical in
/-- each key once -/
noncomputable def onceIn (acc : List (List Key)) (k : List Key) : List (List Key) := if k ∈ acc then acc else k :: acc
noncomputable def once (l : List (List Key)) : List (List Key) := l.foldl onceIn []
theorem once_snoc (l : List (List Key)) (k : List Key) : once (l ++ [k]) = onceIn (once l) k := by
  unfold once
  rw [List.foldl_append]
  rfl
theorem fold_mem : ∀ (l acc : List (List Key)) (k : List Key), k ∈ l.foldl onceIn acc ↔ k ∈ acc ∨ k ∈ l
  | [], acc, k => by simp
  | x :: l, acc, k => by
    rw [List.foldl_cons, fold_mem l, List.mem_cons]
    unfold onceIn
    split
    · rename_i h
      constructor
      · rintro (z | z)
        · exact .inl z
        · exact .inr (.inr z)
      · rintro (z | z | z)
        · exact .inl z
        · rw [z]
          exact .inl h
        · exact .inr z
    · rw [List.mem_cons]
      constructor
      · rintro ((z | z) | z)
        · exact .inr (.inl z)
        · exact .inl z
        · exact .inr (.inr z)
      · rintro (z | z | z)
        · exact .inl (.inr z)
        · exact .inl (.inl z)
        · exact .inr z
theorem once_mem {l : List (List Key)} {k : List Key} : k ∈ once l ↔ k ∈ l := by
  unfold once
  rw [fold_mem]
  simp
theorem once_len (l : List (List Key)) : (once l).length ≤ l.length ∧ ((once l).length = l.length ↔ l.Nodup) := by
  have : ∀ n, ∀ l : List (List Key), l.length = n → (once l).length ≤ l.length ∧ ((once l).length = l.length ↔ l.Nodup) := by
    intro n
    induction n with
    | zero =>
      intro l h
      have : l = [] := List.eq_nil_of_length_eq_zero h
      subst this
      exact ⟨Nat.le_refl _, by simp [once]⟩
    | succ n ih =>
      intro l h
      have hne : l ≠ [] := fun z => by rw [z] at h; cases h
      obtain ⟨m, k, rfl⟩ : ∃ m k, l = m ++ [k] := ⟨l.dropLast, l.getLast hne, (List.dropLast_concat_getLast hne).symm⟩
      have hm : m.length = n := by simpa using h
      obtain ⟨i1, i2⟩ := ih m hm
      rw [once_snoc]
      have nd : (m ++ [k]).Nodup ↔ m.Nodup ∧ k ∉ m := by
        rw [List.nodup_append]
        constructor
        · rintro ⟨a, _, c⟩
          exact ⟨a, fun z => c k z k (by simp) rfl⟩
        · rintro ⟨a, b⟩
          exact ⟨a, by simp, fun x hx y hy e => b (by rw [List.mem_singleton] at hy; rw [← hy, ← e]; exact hx)⟩
      unfold onceIn
      by_cases hk : k ∈ once m
      · rw [if_pos hk, List.length_append]
        simp only [List.length_cons, List.length_nil]
        refine ⟨by omega, ⟨fun z => by omega, fun z => absurd (once_mem.mp hk) (nd.mp z).2⟩⟩
      · rw [if_neg hk, List.length_append]
        simp only [List.length_cons, List.length_nil]
        refine ⟨by omega, ?_⟩
        rw [nd]
        have e1 : (once m).length + 1 = m.length + (0 + 1) ↔ (once m).length = m.length := by omega
        rw [e1, i2]
        exact ⟨fun z => ⟨z, fun y => hk (once_mem.mpr y)⟩, fun z => z.1⟩
  exact this l.length l rfl
section
variable {P : Program} {w : World} {σ : L2.St} {F : Hp} {wi : TI} {g : TG} {tt : TT} {te : TE} {vs : List Nat} {α : Type} {enc : α → PyData} {as : List α} {ev : α → List Key}
/-- len({elt for .. in ..}) -/
theorem e_lenSc (hi : ItP wi σ F (as.map enc)) (hz : as.length ≤ 17) (ht : ∀ a ∈ as, Turn g tt te σ vs F (enc a) true (.tuple ((ev a).map kD))) :
    EvD (tCB (rLenBag P w) (tCons (tSc1 P w wi g tt te vs) tNil)) σ F (.int ((once (as.map ev)).length : Nat)) := fun S H1 f s Q q => hi S H1 f s _ fun J H2 s2 it D hD => by
  have f2 := f.mono s2
  have sF := s.trans (offS_mono (S := S) s2)
  let Inv1 : Nat → Hp → Prop := fun i H' => Same H2 H' ∧ ∃ rs, H' D = some (BagO P w D rs) ∧ (rs.map Prod.snd).Perm (once ((as.take i).map ev)) ∧ ∀ r ∈ rs, H' r.1 = some (.tup (r.2.map kV))
  refine ⟨fun i m H' => m = as.length - i ∧ i ≤ as.length ∧ Inv1 i H', ⟨as.length, by simp, Nat.zero_le _, same_new hD, [], upd_same, List.Perm.refl _, fun r z => nomatch z⟩, ?_⟩
  rintro i m H' ⟨rfl, hi, s3, rs, hrs, pm, hk⟩
  have f3 : Fr S H' := f2.mono s3
  have jt := it S H' i f3 (offS_mono s3)
  rw [List.length_map] at jt
  by_cases hlt : i < as.length
  · obtain ⟨go, yl⟩ := jt.1 hlt
    refine .inr ⟨go, Inv1 (i + 1), fun H'' p' => ⟨as.length - (i + 1), by omega, rfl, hlt, p'⟩, fun x H'' y => ?_⟩
    have ha : as[i]? = some as[i] := List.getElem?_eq_getElem hlt
    obtain ⟨s5, d, hd, rx⟩ := yl x H'' y
    rw [List.getElem?_map, ha] at hd
    cases hd
    have f5 := f3.mono s5
    have e1 : as.take (i + 1) = as.take i ++ [as[i]] := take_more ha
    have sX := sF.trans (offS_mono (S := S) (s3.trans s5))
    refine ht as[i] (List.getElem_mem hlt) x (offS S H'') sX rx S H'' f5 (Same.refl _) _ fun σ2 ⟨ww, hb, he⟩ => ⟨ww, hb S H'' f5 (Same.refl _) _ fun H3 s6 => ?_⟩
    refine he rfl S H3 (f5.mono s6) (offS_mono s6) _ fun v H4 s7 r4 => ?_
    obtain ⟨a, xs, rfl, h4, r5⟩ := rp_tup r4
    rw [key_rp r5] at h4
    have s37 := s5.trans (s6.trans s7)
    have hrs4 := s37 _ _ hrs
    have lr : rs.length ≤ 16 := by
      have a1 := pm.length_eq
      have a2 := (once_len ((as.take i).map ev)).1
      rw [List.length_map] at a1
      rw [List.length_map, List.length_take] at a2
      omega
    refine ⟨a, ev as[i], rs, rfl, h4, hrs4, lr, fun r hr => s37 _ _ (hk r hr), fun rs' c1 c2 => ⟨same_mut (s3.trans s37) hD, rs', upd_same, ?_, fun r hr => ?_⟩⟩
    · rw [e1, List.map_append, List.map_cons, List.map_nil, once_snoc]
      unfold onceIn
      by_cases hm : ev as[i] ∈ rs.map Prod.snd
      · rw [c1 hm, if_pos (pm.mem_iff.mp hm)]
        exact pm
      · rw [if_neg fun z => hm (pm.mem_iff.mpr z)]
        exact ((c2 hm).map Prod.snd).trans (pm.cons _)
    · have nD : ∀ {b : Addr} {ys : List V}, H4 b = some (.tup ys) → b ≠ D := fun e z => by
        rw [z, hrs4] at e
        cases e
      by_cases hm : ev as[i] ∈ rs.map Prod.snd
      · rw [c1 hm] at hr
        have e := s37 _ _ (hk r hr)
        rw [upd_ne (nD e)]
        exact e
      · rcases List.mem_cons.mp ((c2 hm).mem_iff.mp hr) with z | z
        · rw [z, upd_ne (nD h4)]
          exact h4
        · have e := s37 _ _ (hk r z)
          rw [upd_ne (nD e)]
          exact e
  · have e : i = as.length := by omega
    subst e
    rw [List.take_length] at pm
    have l1 := pm.length_eq
    rw [List.length_map] at l1
    have l2 := (once_len (as.map ev)).1
    rw [List.length_map] at l2
    refine .inl ⟨jt.2 (Nat.le_refl _), (⟨D, rs, rfl, hrs, by omega, ?_⟩ : rLenBag P w [.ref D] H' Q)⟩
    rw [l1]
    exact q _ H' (s2.trans s3) (.int _)
end
end TM

set_option maxHeartbeats 4000000
namespace Ca
open PySem PySem.Spec PyProof.Rows L2
/-- a def of the module under its name -/
structure Fd (P : Program) (w : World) (K : PySem.W.Frag) (mg : PySem.Str → Option Value) (base : Heap) (x : PySem.Str) (k : Nat) (ps : List PySem.Str) (sp : Sp) : Prop where
  ex : ∃ f fd, FnOk P w K mg base CX0 k f fd ps sp ∧ Binds K fd ps [] ∧ PySem.W.keepIn K (.ref f) = true ∧ mg x = some (.ref f)
end Ca

set_option maxHeartbeats 4000000
namespace Q
open PySem PySem.Spec PyProof.Rows L2 Ca
/-! ### rows of tables: is_key, is_row, are_rows -/
structure Ro where
  k : PySem.Str
  l : Int
  r : Int
  n : Int
def roD (a : Ro) : PyData := .tuple [.str a.k, .int a.l, .int a.r, .int a.n]
def roK (a : Ro) : List Key := [.inr a.k, .inl a.l, .inl a.r]
structure GoodR (a : Ro) : Prop where
  k : kindOk a.k = true
  l0 : 0 ≤ a.l
  l9 : a.l ≤ 99
  r0 : 0 ≤ a.r
  r9 : a.r ≤ 99
  n1 : 1 ≤ a.n
  n9 : a.n ≤ 10000
def isRow (d : PyData) : Bool := match d with
  | .tuple [k, l, r, n] => isTri (.tuple [k, l, r]) 99 && isNum n 1 10000
  | _ => false
theorem isRow_not {d : PyData} (h : isTup d = false) : isRow d = false := by
  cases d <;> first | rfl | cases h
theorem isRow_len {ds : List PyData} (h : ds.length ≠ 4) : isRow (.tuple ds) = false := by
  match ds, h with
  | [], _ => rfl
  | [a], _ => rfl
  | [a, b], _ => rfl
  | [a, b, c], _ => rfl
  | [a, b, c, d], h => exact absurd rfl h
  | a :: b :: c :: d :: e :: r, _ => rfl
theorem isNum_is {d : PyData} {lo hi : Int} (h : isNum d lo hi = true) : ∃ i, d = .int i ∧ lo ≤ i ∧ i ≤ hi := by
  cases d with
  | int i =>
    unfold isNum at h
    simp only [Bool.and_eq_true, decide_eq_true_eq] at h
    exact ⟨i, rfl, h.1, h.2⟩
  | _ => cases h
theorem isRow_is {d : PyData} (h : isRow d = true) : ∃ a, d = roD a ∧ GoodR a := by
  cases d with
  | tuple ds =>
    match ds, h with
    | [k, l, r, n], h =>
      unfold isRow at h
      simp only [Bool.and_eq_true] at h
      obtain ⟨h1, h2⟩ := h
      cases k with
      | str k =>
        unfold isTri at h1
        simp only [Bool.and_eq_true] at h1
        obtain ⟨k1, l1, r1⟩ := h1
        obtain ⟨i, rfl, a1, a2⟩ := isNum_is l1
        obtain ⟨j, rfl, b1, b2⟩ := isNum_is r1
        obtain ⟨m, rfl, c1, c2⟩ := isNum_is h2
        exact ⟨⟨k, i, j, m⟩, rfl, ⟨k1, a1, a2, b1, b2, c1, c2⟩⟩
      | _ => cases h1
  | _ => cases h
theorem isRow_of {a : Ro} (g : GoodR a) : isRow (roD a) = true := by
  simp [isRow, roD, isTri, isNum, g.k, g.l0, g.l9, g.r0, g.r9, g.n1, g.n9]
/-- the rows of one table -/
def AreR (ds : List PyData) : Prop := ds.length ≤ 12 ∧ ∃ rs : List Ro, ds = rs.map roD ∧ (∀ a ∈ rs, GoodR a) ∧ (rs.map roK).Nodup
theorem rows_of {ds : List PyData} (h : ds.all isRow = true) : ∃ rs : List Ro, ds = rs.map roD ∧ ∀ a ∈ rs, GoodR a := by
  induction ds with
  | nil => exact ⟨[], rfl, fun a z => nomatch z⟩
  | cons d ds ih =>
    rw [List.all_cons, Bool.and_eq_true] at h
    obtain ⟨a, rfl, g⟩ := isRow_is h.1
    obtain ⟨rs, rfl, gs⟩ := ih h.2
    exact ⟨a :: rs, rfl, fun b hb => by
      rcases List.mem_cons.mp hb with e | hb
      · rw [e]; exact g
      · exact gs b hb⟩
abbrev s_is_key : Stmt := top 25
abbrev s_is_row : Stmt := top 26
abbrev s_are_rows : Stmt := top 27
theorem sc_key : FnScope ["thing"] ["thing"] (defScope s_is_key) := ⟨rfl, rfl, rfl, by decide +kernel, rfl, by decide +kernel, by decide +kernel⟩
theorem sc_row : FnScope ["thing"] ["thing"] (defScope s_is_row) := ⟨rfl, rfl, rfl, by decide +kernel, rfl, by decide +kernel, by decide +kernel⟩
theorem sc_rows : FnScope ["things", "thing", "row"] ["things"] (defScope s_are_rows) := ⟨rfl, rfl, rfl, by decide +kernel, rfl, by decide +kernel, by decide +kernel⟩
def RNum : List PyData → PyData → Prop := fun ds d => ∃ x lo hi, ds = [x, .int lo, .int hi] ∧ d = .bool (isNum x lo hi)
def RTri : List PyData → PyData → Prop := fun ds d => ∃ x m, ds = [x, .int m] ∧ d = .bool (isTri x m)
def RKey : List PyData → PyData → Prop := fun ds d => ∃ x, ds = [x] ∧ d = .bool (isTri x 99)
def RRow : List PyData → PyData → Prop := fun ds d => ∃ x, ds = [x] ∧ d = .bool (isRow x)
def RRowsT : List PyData → PyData → Prop := fun ds d => ∃ es b, ds = [.tuple es] ∧ es.length ≤ 1000 ∧ d = .bool b ∧ (b = true ↔ AreR es)
def RRowsL : List PyData → PyData → Prop := fun ds d => ∃ es b, ds = [.list es] ∧ es.length ≤ 1000 ∧ d = .bool b ∧ (b = true ↔ AreR es)
theorem num_imp : ∀ vs H Q E, spR RNum vs H Q E → spNum vs H Q E := by
  rintro vs H Q E ⟨S, ds, d, f, r, ⟨x, lo, hi, rfl, rfl⟩, q⟩
  obtain ⟨v, v1, v2, rfl, r1, r2, r3⟩ := rpa3 r
  cases r2
  cases r3
  exact ⟨v, x, lo, hi, rfl, r1.mono offS_same, q _ H (Same.refl _) (.bl _)⟩
theorem tri_imp : ∀ vs H Q E, spR RTri vs H Q E → spTri vs H Q E := by
  rintro vs H Q E ⟨S, ds, d, f, r, ⟨x, m, rfl, rfl⟩, q⟩
  obtain ⟨v, v1, rfl, r1, r2⟩ := rpa2 r
  cases r2
  exact ⟨v, x, m, rfl, r1.mono offS_same, q _ H (Same.refl _) (.bl _)⟩
section
variable {K : PySem.W.Frag} {σ : L2.St} {F : Hp} {ta : TE} {d : PyData}
theorem e_isiT (h : EvD ta σ F d) : EvD (tCB (rIsi K) (tCons ta (tCons (tC (.ty "tuple")) tNil))) σ F (.bool (isTup d)) := fun S H1 f s Q q => h S H1 f s _ fun v H2 s2 r =>
  ⟨_, _, _, _, _, rfl, .ty _, (r.mono offS_same).ty, kTup d, q _ H2 s2 (.bl _)⟩
end
section
variable {P : Program} {w : World} {K : PySem.W.Frag} {mg : PySem.Str → Option Value} {base : Heap}
theorem e_glI {σ : L2.St} {F : Hp} {i : Int} : EvD (tC (.int i)) σ F (.int i) := e_int
theorem ok_key {f : Addr} {fd : FuncData} (F : FnP K "is_key" s_is_key f fd) (gV : ∃ t, mg "MOST_VALUE" = some (.int 99 t)) (D1 : Fd P w K mg base "is_triple" 2 ["thing", "most"] (spR RTri)) : FnOk P w K mg base CX0 3 f fd ["thing"] (spR RKey) := by
  obtain ⟨f1, fd1, G1, b1, k1, m1⟩ := D1.ex
  obtain ⟨t, gV⟩ := gV
  refine F.ok sc_key (spR_len (by rintro _ _ ⟨x, rfl, _⟩; rfl)) (fun cdv A outer s H vs Q E hr h => ?_)
  obtain ⟨S, ds, d, fr, rA, ⟨x, rfl, rfl⟩, q⟩ := h
  obtain ⟨v0, rfl, r0⟩ := rpa1 rA
  refine ⟨_, PSs.nox (pss_one (ps_ret (pe_call G1 (hr.mono (by decide)) rfl m1 k1 b1 .nil pass0 (pa_cons (pv 0) (pa_cons (pe_glob (v := .int 99) rfl gV ⟨t, rfl⟩) pa_nil))))), ?_⟩
  exact go_ret (P := fun H v => Rp H v (.bool (isTri x 99))) fr (e_call (a_cons (e_var rfl r0) (a_cons e_glI a_nil)) ⟨x, 99, rfl, rfl⟩) q
theorem ok_row {f : Addr} {fd : FuncData} (F : FnP K "is_row" s_is_row f fd) (T : Tx K mg) (gO : ∃ t, mg "MOST_OFTEN" = some (.int 10000 t)) (D1 : Fd P w K mg base "is_key" 3 ["thing"] (spR RKey)) (D2 : Fd P w K mg base "is_number" 1 ["thing", "least", "most"] (spR RNum)) :
    FnOk P w K mg base CX0 4 f fd ["thing"] (spR RRow) := by
  obtain ⟨f1, fd1, G1, b1, k1, m1⟩ := D1.ex
  obtain ⟨f2, fd2, G2, b2, k2, m2⟩ := D2.ex
  obtain ⟨t, gO⟩ := gO
  refine F.ok sc_row (spR_len (by rintro _ _ ⟨x, rfl, _⟩; rfl)) (fun cdv A outer s H vs Q E hr h => ?_)
  obtain ⟨S, ds, d, fr, rA, ⟨x, rfl, rfl⟩, q⟩ := h
  obtain ⟨v0, rfl, r0⟩ := rpa1 rA
  refine ⟨_, PSs.nox (pss_cons (ps_if (PW.pt (pw_or (pt_not (pt_val (pe_callB (call_isi : CallR _ _ (rIsi K)) (by rfl) T.isi bIsi (pa_cons (pv 0) (pa_cons (pe_bltn (v := .ty "tuple") (by rfl) T.tup bTup rfl) pa_nil)))))
      (pw_or1 (pt_cmpR op_ne (pe_callB (call_lenQ : CallR _ _ (rLenQ K)) (by rfl) T.len bLen (pa_cons (pv 0) pa_nil)) pe_int (nomark _))))) (pss_one (ps_ret pe_bl)) pss_nil)
    (pss_one (ps_ret (pe_and (pe_call G1 (hr.mono (by decide)) rfl m1 k1 b1 .nil pass0 (pa_cons (pe_slice (sl_tupA : SlR _ (rSlA K)) (pv 0) po_none (po_some pe_int)) pa_nil))
      (pe_one (pe_call G2 (hr.mono (by decide)) rfl m2 k2 b2 .nil pass0 (pa_cons (pe_ix (ix_tup : IxR _ (rIxT K)) (pv 0) pe_int (fun _ _ => rfl)) (pa_cons pe_int (pa_cons (pe_glob (v := .int 10000) rfl gO ⟨t, rfl⟩) pa_nil))))))))), ?_⟩
  have no : ∀ {H' : Hp}, Same H H' → Fr S H' → isRow x = false → tRet (tC (.bl false)) { nx := fun _ H' => Q .non H', rt := Q } (start ["thing"] [v0]) H' := fun s1 f1 e => q _ _ s1 (by rw [e]; exact .bl _)
  cases hT : isTup x with
  | false =>
    refine go_ifS fr (b := true) (by
      have := b_or (b := true) (b_not (b_val (e_isiT (K := K) (e_var (σ := start ["thing"] [v0]) (i := 0) rfl r0)))) (tu := tTest (tOp rNe (tCB (rLenQ K) (tCons (tVar 0) tNil)) (tC (.int 4)))) fun z => by rw [hT] at z; cases z
      rw [hT] at this
      exact this) (fun _ H1 s1 f1 => no s1 f1 (isRow_not hT)) fun z => by cases z
  | true =>
    cases x with
    | tuple es =>
      refine go_ifS fr (b := !decide ((es.length : Int) = 4)) (b_or (b_not (b_val (e_isiT (e_var rfl r0)))) fun _ => b_test (e_neI (e_lenT (e_var rfl r0)) e_int)) (fun z H1 s1 f1 => no s1 f1 (isRow_len fun e => by rw [e] at z; cases z)) fun z H1 s1 fr1 => ?_
      have l4 : es.length = 4 := by
        simp only [Bool.not_eq_false', decide_eq_true_eq] at z
        omega
      have r1 := r0.mono (offS_mono (S := S) s1)
      match es, l4 with
      | [k, l, r, n], _ =>
        exact go_ret (P := fun H v => Rp H v (.bool (isRow (.tuple [k, l, r, n])))) fr1 (e_and (e_call (a_cons (e_slT (e_var rfl r1) o_none (o_some e_int)) a_nil) ⟨_, rfl, rfl⟩) fun _ => e_call (a_cons (e_ixT (e_var rfl r1) e_int rfl rfl) (a_cons e_int (a_cons e_glI a_nil))) ⟨n, 1, 10000, rfl, rfl⟩) fun v H2 s2 r2 => q v H2 (s1.trans s2) r2
    | _ => cases hT
end
end Q

set_option maxHeartbeats 400000
namespace Q
open PySem PySem.Spec PyProof.Rows L2 Ca
theorem u1 {n : Nat} (h : n + 64 < cLine) : n + 1 < cLine := by omega
theorem roD_inj : ∀ {as bs : List Ro}, as.map roD = bs.map roD → as = bs
  | [], [], _ => rfl
  | [], b :: bs, h => by cases h
  | a :: as, [], h => by cases h
  | ⟨k, l, r, n⟩ :: as, ⟨k', l', r', n'⟩ :: bs, h => by
    rw [List.map_cons, List.map_cons] at h
    injection h with h1 h2
    unfold roD at h1
    injection h1 with h1
    injection h1 with h3 h1
    injection h1 with h4 h1
    injection h1 with h5 h1
    injection h1 with h6 h1
    cases h3
    cases h4
    cases h5
    cases h6
    rw [roD_inj h2]
section
variable {P : Program} {w : World} {K : PySem.W.Frag} {mg : PySem.Str → Option Value} {base : Heap}
theorem ok_rowsT {f : Addr} {fd : FuncData} (F : FnP K "are_rows" s_are_rows f fd) (T : Tx K mg) (gM : ∃ t, mg "MOST_ROWS" = some (.int 12 t)) (D1 : Fd P w K mg base "is_row" 4 ["thing"] (spR RRow)) : FnOk P w K mg base CX0 5 f fd ["things"] (spR RRowsT) := by
  obtain ⟨f1, fd1, G1, b1, k1, m1⟩ := D1.ex
  obtain ⟨t, gM⟩ := gM
  refine F.ok sc_rows (spR_len (by rintro _ _ ⟨x, b, rfl, _⟩; rfl)) (fun cdv A outer s H vs Q E hr h => ?_)
  obtain ⟨S, ds, d, fr, rA, ⟨es, b, rfl, hz, rfl, hb⟩, q⟩ := h
  obtain ⟨v0, rfl, r0⟩ := rpa1 rA
  refine ⟨_, PSs.nox (pss_cons (ps_if (PW.pt (pw_or (pt_cmpR op_gt (pe_callB (call_lenQ : CallR _ _ (rLenQ K)) (by rfl) T.len bLen (pa_cons (pv 0) pa_nil)) (pe_glob (v := .int 12) rfl gM ⟨t, rfl⟩) (nomark _))
      (pw_or1 (pt_not (pt_val (pe_callB (cr_all rfl : CallR _ _ (rAll K)) (by rfl) T.all bAll (pa_cons (pe_lc (own := [("thing", 1)]) (g := gName 1) rfl sc_rows.nd (pi_tupQ (K := K) rfl (pv 0)) (blkOk_by (own := [("thing", 1)]) (N := ["things", "thing", "row"]) (sc := defScope s_are_rows) (by decide +kernel))
        (fun _ _ _ _ _ => pg_name (i := 1) sc_rows.nd rfl (Or.inl rfl)) (fun _ _ _ _ _ => pts_nil) (fun _ _ _ _ _ => pe_call G1 (hr.mono (by decide)) rfl m1 k1 b1 .nil pass0 (pa_cons (pv 1) pa_nil))) pa_nil))))))) (pss_one (ps_ret pe_bl)) pss_nil)
    (pss_one (ps_ret (pe_cmpR op_eq (pe_callB TM.cr_lenBag (by rfl) T.len bLen (pa_cons (TM.pe_sc1 (own := [("row", 2)]) (g := gName 2) (u1 hr.units) rfl sc_rows.nd (pi_tupQ (K := K) rfl (pv 0)) (blkOk_by (own := [("row", 2)]) (N := ["things", "thing", "row"]) (sc := defScope s_are_rows) (by decide +kernel))
        (fun _ _ _ _ _ => pg_name (i := 2) sc_rows.nd rfl (Or.inl rfl)) (fun _ _ _ _ _ => pts_nil) (fun _ _ _ _ _ => pe_slice (sl_tupA : SlR _ (rSlA K)) (pv 2) po_none (po_some pe_int))) pa_nil)) (pe_callB (call_lenQ : CallR _ _ (rLenQ K)) (by rfl) T.len bLen (pa_cons (pv 0) pa_nil)) (nomark _))))), ?_⟩
  have isB : ∀ d ∈ (es.filter fun _ => true).map (fun d => PyData.bool (isRow d)), ∃ b, d = .bool b := fun d hd => by
    obtain ⟨e, _, rfl⟩ := List.mem_map.mp hd
    exact ⟨_, rfl⟩
  have eall : ((es.filter fun _ => true).map fun d => PyData.bool (isRow d)).all truD = es.all isRow := by
    rw [filter_yes, List.all_map]
    rfl
  refine go_ifS fr (b := decide ((es.length : Int) > 12) || !es.all isRow) (b_or (b_test (e_cmp (g := fun i j => decide (i > j)) (e_lenT (e_var rfl r0)) e_glI)) fun _ => by
    have := b_not (b_val (e_all (K := K) (e_lcT (K := K) (σ := start ["things", "thing", "row"] [v0]) (g := gName 1) (tt := tYes) (te := tCall (spR RRow) [] E0 (tCons (tVar 1) tNil)) (vs := [1]) (enc := id) (as := es) (b := fun _ => true) (ev := fun d => PyData.bool (isRow d)) (by rw [List.map_id]; exact e_var (i := 0) rfl r0) hz fun d hd x F2 sF r => g_name ⟨rfl, b_yes, fun _ => e_call (a_cons (e_var (i := 1) rfl r) a_nil) ⟨d, rfl, rfl⟩⟩) isB))
    rw [eall] at this
    exact this) (fun z H1 s1 f1 => ?_) fun z H1 s1 fr1 => ?_
  · have e : b = false := by
      cases b with
      | false => rfl
      | true =>
        obtain ⟨l12, rs, rfl, g, _⟩ := hb.mp rfl
        have a1 : decide (((rs.map roD).length : Int) > 12) = false := decide_eq_false (by omega)
        have a2 : (rs.map roD).all isRow = true := List.all_eq_true.mpr fun d hd => by
          obtain ⟨a, ha, rfl⟩ := List.mem_map.mp hd
          exact isRow_of (g a ha)
        rw [a1, a2] at z
        cases z
    subst e
    exact q _ _ s1 (.bl _)
  · rw [Bool.or_eq_false_iff] at z
    have l12 : es.length ≤ 12 := by
      have := of_decide_eq_false z.1
      omega
    obtain ⟨rs, rfl, g⟩ := rows_of (ds := es) (by simpa using z.2)
    rw [List.length_map] at l12
    have r1 := r0.mono (offS_mono (S := S) s1)
    refine go_ret (P := fun H v => Rp H v (.bool b)) fr1 (eqD (e_eqI (TM.e_lenSc (P := P) (w := w) (enc := roD) (as := rs) (ev := roK) (it_tup (e_var rfl r1)) (by omega) fun a ha x F2 sF r => g_name ⟨rfl, b_yes, fun _ => eqD (e_slT (e_var rfl r) o_none (o_some e_int)) rfl⟩) (e_lenT (e_var rfl r1))) ?_) fun v H2 s2 r2 => q v H2 (s1.trans s2) r2
    congr 1
    have oc := (TM.once_len (rs.map roK)).2
    rw [List.length_map] at oc
    rw [List.length_map]
    rw [Bool.eq_iff_iff, decide_eq_true_eq, hb]
    constructor
    · intro e
      exact ⟨by rw [List.length_map]; exact l12, rs, rfl, g, oc.mp (by omega)⟩
    · rintro ⟨_, rs', e, _, nd⟩
      have er : rs' = rs := roD_inj e.symm
      subst er
      have := oc.mpr nd
      omega
theorem ok_rowsL {f : Addr} {fd : FuncData} (F : FnP K "are_rows" s_are_rows f fd) (T : Tx K mg) (gM : ∃ t, mg "MOST_ROWS" = some (.int 12 t)) (D1 : Fd P w K mg base "is_row" 4 ["thing"] (spR RRow)) : FnOk P w K mg base CX0 5 f fd ["things"] (spR RRowsL) := by
  obtain ⟨f1, fd1, G1, b1, k1, m1⟩ := D1.ex
  obtain ⟨t, gM⟩ := gM
  refine F.ok sc_rows (spR_len (by rintro _ _ ⟨x, b, rfl, _⟩; rfl)) (fun cdv A outer s H vs Q E hr h => ?_)
  obtain ⟨S, ds, d, fr, rA, ⟨es, b, rfl, hz, rfl, hb⟩, q⟩ := h
  obtain ⟨v0, rfl, r0⟩ := rpa1 rA
  refine ⟨_, PSs.nox (pss_cons (ps_if (PW.pt (pw_or (pt_cmpR op_gt (pe_callB (call_lenQ : CallR _ _ (rLenQ K)) (by rfl) T.len bLen (pa_cons (pv 0) pa_nil)) (pe_glob (v := .int 12) rfl gM ⟨t, rfl⟩) (nomark _))
      (pw_or1 (pt_not (pt_val (pe_callB (cr_all rfl : CallR _ _ (rAll K)) (by rfl) T.all bAll (pa_cons (pe_lc (own := [("thing", 1)]) (g := gName 1) rfl sc_rows.nd (pi_listQ (K := K) rfl (pv 0)) (blkOk_by (own := [("thing", 1)]) (N := ["things", "thing", "row"]) (sc := defScope s_are_rows) (by decide +kernel))
        (fun _ _ _ _ _ => pg_name (i := 1) sc_rows.nd rfl (Or.inl rfl)) (fun _ _ _ _ _ => pts_nil) (fun _ _ _ _ _ => pe_call G1 (hr.mono (by decide)) rfl m1 k1 b1 .nil pass0 (pa_cons (pv 1) pa_nil))) pa_nil))))))) (pss_one (ps_ret pe_bl)) pss_nil)
    (pss_one (ps_ret (pe_cmpR op_eq (pe_callB TM.cr_lenBag (by rfl) T.len bLen (pa_cons (TM.pe_sc1 (own := [("row", 2)]) (g := gName 2) (u1 hr.units) rfl sc_rows.nd (pi_listQ (K := K) rfl (pv 0)) (blkOk_by (own := [("row", 2)]) (N := ["things", "thing", "row"]) (sc := defScope s_are_rows) (by decide +kernel))
        (fun _ _ _ _ _ => pg_name (i := 2) sc_rows.nd rfl (Or.inl rfl)) (fun _ _ _ _ _ => pts_nil) (fun _ _ _ _ _ => pe_slice (sl_tupA : SlR _ (rSlA K)) (pv 2) po_none (po_some pe_int))) pa_nil)) (pe_callB (call_lenQ : CallR _ _ (rLenQ K)) (by rfl) T.len bLen (pa_cons (pv 0) pa_nil)) (nomark _))))), ?_⟩
  have isB : ∀ d ∈ (es.filter fun _ => true).map (fun d => PyData.bool (isRow d)), ∃ b, d = .bool b := fun d hd => by
    obtain ⟨e, _, rfl⟩ := List.mem_map.mp hd
    exact ⟨_, rfl⟩
  have eall : ((es.filter fun _ => true).map fun d => PyData.bool (isRow d)).all truD = es.all isRow := by
    rw [filter_yes, List.all_map]
    rfl
  refine go_ifS fr (b := decide ((es.length : Int) > 12) || !es.all isRow) (b_or (b_test (e_cmp (g := fun i j => decide (i > j)) (e_lenL (e_var rfl r0)) e_glI)) fun _ => by
    have := b_not (b_val (e_all (K := K) (e_lcL (K := K) (σ := start ["things", "thing", "row"] [v0]) (g := gName 1) (tt := tYes) (te := tCall (spR RRow) [] E0 (tCons (tVar 1) tNil)) (vs := [1]) (enc := id) (as := es) (b := fun _ => true) (ev := fun d => PyData.bool (isRow d)) (by rw [List.map_id]; exact e_var (i := 0) rfl r0) hz fun d hd x F2 sF r => g_name ⟨rfl, b_yes, fun _ => e_call (a_cons (e_var (i := 1) rfl r) a_nil) ⟨d, rfl, rfl⟩⟩) isB))
    rw [eall] at this
    exact this) (fun z H1 s1 f1 => ?_) fun z H1 s1 fr1 => ?_
  · have e : b = false := by
      cases b with
      | false => rfl
      | true =>
        obtain ⟨l12, rs, rfl, g, _⟩ := hb.mp rfl
        have a1 : decide (((rs.map roD).length : Int) > 12) = false := decide_eq_false (by omega)
        have a2 : (rs.map roD).all isRow = true := List.all_eq_true.mpr fun d hd => by
          obtain ⟨a, ha, rfl⟩ := List.mem_map.mp hd
          exact isRow_of (g a ha)
        rw [a1, a2] at z
        cases z
    subst e
    exact q _ _ s1 (.bl _)
  · rw [Bool.or_eq_false_iff] at z
    have l12 : es.length ≤ 12 := by
      have := of_decide_eq_false z.1
      omega
    obtain ⟨rs, rfl, g⟩ := rows_of (ds := es) (by simpa using z.2)
    rw [List.length_map] at l12
    have r1 := r0.mono (offS_mono (S := S) s1)
    refine go_ret (P := fun H v => Rp H v (.bool b)) fr1 (eqD (e_eqI (TM.e_lenSc (P := P) (w := w) (enc := roD) (as := rs) (ev := roK) (it_list (e_var rfl r1)) (by omega) fun a ha x F2 sF r => g_name ⟨rfl, b_yes, fun _ => eqD (e_slT (e_var rfl r) o_none (o_some e_int)) rfl⟩) (e_lenL (e_var rfl r1))) ?_) fun v H2 s2 r2 => q v H2 (s1.trans s2) r2
    congr 1
    have oc := (TM.once_len (rs.map roK)).2
    rw [List.length_map] at oc
    rw [List.length_map]
    rw [Bool.eq_iff_iff, decide_eq_true_eq, hb]
    constructor
    · intro e
      exact ⟨by rw [List.length_map]; exact l12, rs, rfl, g, oc.mp (by omega)⟩
    · rintro ⟨_, rs', e, _, nd⟩
      have er : rs' = rs := roD_inj e.symm
      subst er
      have := oc.mpr nd
      omega
end
end Q

set_option maxHeartbeats 400000
namespace Q
open PySem PySem.Spec PyProof.Rows L2 Ca
/-! ### what is read through tuples alone stays where tuples stay -/
def onlyT (H : Hp) : Hp := fun a => match H a with
  | some (.tup xs) => some (.tup xs)
  | _ => none
theorem onlyT_same {H : Hp} : Same (onlyT H) H := fun b o e => by
  unfold onlyT at e
  split at e
  · rename_i xs h
    rw [h]
    exact e
  · cases e
def KT (H H' : Hp) : Prop := ∀ t ys, H t = some (.tup ys) → H' t = some (.tup ys)
theorem KT.trans {H H1 H2 : Hp} (a : KT H H1) (b : KT H1 H2) : KT H H2 := fun t ys e => b t ys (a t ys e)
theorem KT.of {H H' : Hp} (h : Same H H') : KT H H' := fun t ys e => h _ _ e
theorem KT.m {H H' : Hp} (k : KT H H') : Same (onlyT H) (onlyT H') := fun b o e => by
  unfold onlyT at e
  split at e
  · rename_i xs h
    have h2 := k b xs h
    unfold onlyT
    rw [h2]
    exact e
  · cases e

theorem ro_T {H : Hp} {a : Ro} {v : V} (r : Rp H v (roD a)) : Rp (onlyT H) v (roD a) := by
  cases r with
  | @tup t xs _ h q =>
    have e : xs = [.str a.k, .int a.l, .int a.r, .int a.n] := by
      cases q with
      | cons h1 q =>
        cases h1
        cases q with
        | cons h1 q =>
          cases h1
          cases q with
          | cons h1 q =>
            cases h1
            cases q with
            | cons h1 q =>
              cases h1
              cases q
              rfl
    subst e
    exact .tup (by unfold onlyT; rw [h]) (.cons (.str _) (.cons (.int _) (.cons (.int _) (.cons (.int _) .nil))))
theorem ros_T {H : Hp} : ∀ {rs : List Ro} {xs : List V}, RpA H xs (rs.map roD) → RpA (onlyT H) xs (rs.map roD)
  | [], _, .nil => .nil
  | _ :: _, _, .cons h q => .cons (ro_T h) (ros_T q)
section
variable {K : PySem.W.Frag} {σ : L2.St} {F : Hp} {ta : TE} {ds : List PyData}
theorem e_sortDT (h : EvD ta σ F (.tuple ds)) (hal : PySem.W.AllAlike ds) (hso : PySem.W.Sortable ds) (hdp : ∀ d ∈ ds, d.depth ≤ 60) (hl : ds.length ≤ 1000) : EvD (tCB rSortD (tCons ta tNil)) σ F (.list (srtD ds)) := fun S H1 f s Q q =>
  h S H1 f s _ fun v H2 s2 r => by
    cases r with
    | @tup a xs _ ha rx =>
      obtain ⟨bs, rfl, rfl, rb⟩ := zipV rx
      rw [List.length_map] at hl
      refine ⟨a, bs, rfl, .inr (offS_same _ _ ha), fun b hb => (rb b hb).mono offS_same, hal, hso, fun b hb => hdp _ (List.mem_map.mpr ⟨b, hb, rfl⟩), Nat.le_of_lt (small1000 hl), fun p hp => q _ _ (s2.trans (same_new hp)) (.lst (offS_new (f.mono s2) hp) ?_)⟩
      rw [← srt_snd]
      refine RpA.mono (offS_mono (same_new hp)) (unzipV fun b hb => rb b ?_)
      unfold sortD at hb
      exact (List.mem_mergeSort.mp hb)
end
theorem ro_alike (a b : Ro) : PySem.W.alike (roD a) (roD b) = true := by simp [roD, PySem.W.alike, PySem.W.alikeAll]
theorem ros_alike (rs : List Ro) : PySem.W.AllAlike (rs.map roD) := by
  intro x hx y hy
  obtain ⟨a, _, rfl⟩ := List.mem_map.mp hx
  obtain ⟨b, _, rfl⟩ := List.mem_map.mp hy
  exact ro_alike a b
theorem ros_sortable (rs : List Ro) : PySem.W.Sortable (rs.map roD) := .inl fun d hd => by
  obtain ⟨a, _, rfl⟩ := List.mem_map.mp hd
  exact ⟨_, _, rfl⟩
theorem ro_depth (a : Ro) : (roD a).depth ≤ 60 := by simp [roD, PyData.depth, PyData.depthAll]
/-- the rows ascending -/
theorem srt_rows (rs : List Ro) : ∃ ks : List Ro, srtD (rs.map roD) = ks.map roD ∧ ks.Perm rs := by
  have pm : (srtD (rs.map roD)).Perm (rs.map roD) := List.mergeSort_perm _ _
  have : ∀ {l m : List PyData}, l.Perm m → ∀ n : List Ro, m = n.map roD → ∃ o : List Ro, l = o.map roD ∧ o.Perm n := by
    intro l m hp
    induction hp with
    | nil =>
      intro n e
      exact ⟨[], rfl, by rw [List.map_eq_nil_iff.mp e.symm]⟩
    | cons x hp ih =>
      intro n e
      cases n with
      | nil => cases e
      | cons y n =>
        rw [List.map_cons] at e
        injection e with e1 e2
        obtain ⟨o, h1, h2⟩ := ih n e2
        exact ⟨y :: o, by rw [List.map_cons, ← h1, e1], h2.cons y⟩
    | swap x y l =>
      intro n e
      match n, e with
      | a :: b :: n, e =>
        rw [List.map_cons, List.map_cons] at e
        injection e with e1 e2
        injection e2 with e2 e3
        exact ⟨b :: a :: n, by rw [List.map_cons, List.map_cons, ← e1, ← e2, ← e3], List.Perm.swap a b n⟩
    | trans h1 h2 ih1 ih2 =>
      intro n e
      obtain ⟨o2, e2, p2⟩ := ih2 n e
      obtain ⟨o1, e1, p1⟩ := ih1 o2 e2
      exact ⟨o1, e1, p1.trans p2⟩
  exact this pm rs rfl
/-- what the top has written of the class Table (at C) and of NoRows (at N) -/
structure TT (K : PySem.W.Frag) (mg : PySem.Str → Option Value) (C N : Addr) : Prop where
  cl : Cls K C
  nK : NoAttr K C "kept"
  gN : mg "NoRows" = some (.ref N)
  xN : PySem.W.excIn K N [.type "ValueError", .type "Exception", .type "BaseException", .type "object"] "ValueError.__new__" = true
  kN : PySem.W.keepIn K (.ref N) = true
  bN : PySem.W.subIn K (.ref N) (.type "BaseException") = some true
  tN : PySem.W.typeIn K (.ref N) = some (.type "type")
abbrev cT : Stmt := top 34
abbrev s_tinit : Stmt := inClass cT 0
def tf (o : V) : List (PySem.Str × V) := putF "kept" o []
/-- a table with these rows -/
def TV (C : Addr) (ks : List Ro) (F : Hp) (v : V) : Prop := ∃ x dx o, v = .ref x ∧ F x = some (.ins C dx (tf (.ref o))) ∧ Rp (onlyT F) (.ref o) (.tuple (ks.map roD))
def spTInit (C N : Addr) : Sp := fun vs H Q E => ∃ (x dx p : Addr) (ds : List PyData) (b : Bool), vs = [.ref x, .ref p] ∧ H x = some (.ins C dx []) ∧ Rp H (.ref p) (.tuple ds) ∧ ds.length ≤ 1000 ∧ (b = true ↔ AreR ds) ∧
  (b = false → ∀ H', Same H H' → E (.ref N) none H') ∧
  (∀ rs ks : List Ro, ds = rs.map roD → AreR ds → srtD ds = ks.map roD → ks.Perm rs → ∀ H', (∀ b o, b ≠ x → H b = some o → H' b = some o) → TV C ks H' (.ref x) → Q .non H')
theorem sc_tinit : FnScope ["self", "rows"] ["self", "rows"] (defScope s_tinit) := ⟨rfl, rfl, rfl, by decide +kernel, rfl, by decide +kernel, by decide +kernel⟩
def spTInitR (C N : Addr) : Sp := fun vs H Q E => ∃ ws rest : List V, vs = ws ++ rest ∧ ws.length = ["self"].length ∧ rest.length ≤ sizeLine ∧ ∀ p, H p = none → spTInit C N (ws ++ [V.ref p]) (upd H p (.tup rest)) Q E
section
variable {P : Program} {w : World} {K : PySem.W.Frag} {mg : PySem.Str → Option Value} {base : Heap}
theorem ok_tinit {f C N : Addr} {fd : FuncData} (F : FnM K "__init__" "Table.__init__" s_tinit f fd) (T : Tx K mg) (TQ : TT K mg C N) (D1 : Fd P w K mg base "are_rows" 5 ["things"] (spR RRowsT)) : FnR P w K mg base (L2.CX P w) 6 f (spTInitR C N) := by
  obtain ⟨f1, fd1, G1, b1, k1, m1⟩ := D1.ex
  obtain ⟨oc, od, dV, kV', doc, pm, an, cdv, ct, osl, rfl, lk, hcd, hdfl, _⟩ := F.ex
  have ed : dV = .none := by
    rcases hdfl with ⟨_, e⟩ | ⟨h, _⟩
    · exact e
    · exact absurd rfl h
  subst ed
  refine StX.fn_star (ps := ["self"]) (pv := "rows") lk hcd sc_tinit StX.cxUp (StX.bind_star1 (p1 := "self") (pv := "rows") (B := fun us => bindArgs (PySem.W.fnOf "__init__" "Table.__init__" (defArgs s_tinit) (defBody s_tinit) (defScope s_tinit) .none kV' doc pm an cdv ct) ⟨us, []⟩) (fun a => by rfl) (fun a r rs => by rfl)) (fun A outer s H vs Q E hr h => ?_)
  obtain ⟨x, dx, p, ds, b, rfl, hx, rp, hz, hb, kE, kQ⟩ := h
  refine ⟨_, pss_cons (ps_if (pt_not (pt_val (pe_call G1 (hr.mono (by decide)) rfl m1 k1 b1 .nil pass0 (pa_cons (pv 1) pa_nil))))
      (pss_one (ps_raise rfl (takes_of rfl rfl rfl rfl) (pmk_own PySem.F.excBase_ValueError TQ.xN TQ.gN TQ.kN (raises_own TQ.bN TQ.tN) rfl))) pss_nil)
    (pss_one (ps_fld (pv 0) (pe_callTy (call_tupQ : CallR _ _ (rTupQ K)) (by rfl) T.tup bTup (pa_cons (pe_callB (cr_sortD T.sm hr) (by rfl) T.sorted bSorted (pa_cons (pv 1) pa_nil)) pa_nil)) rfl)), ?_⟩
  have fr0 : Fr (fun _ => false) H := fun a z => by cases z
  have off0 : ∀ {G : Hp}, Same G (offS (fun _ => false) G) := fun b o e => by
    rw [offS_at rfl]
    exact e
  have rp0 := rp.mono (off0 (G := H))
  refine go_ifS (b := !b) fr0 (b_not (b_val (e_call (a_cons (e_var (i := 1) rfl rp0) a_nil) ⟨ds, b, rfl, hz, rfl, hb⟩))) (fun z H1 s1 f1 => ?_) fun z H1 s1 fr1 => ?_
  · exact kE (by simpa using z) H1 s1
  · have bt : b = true := by simpa using z
    have hA := hb.mp bt
    obtain ⟨l12, rs, rfl, g, nd⟩ := hb.mp bt
    obtain ⟨ks, es, pks⟩ := srt_rows rs
    have rp1 := rp0.mono (offS_mono (S := fun _ => false) s1)
    refine (e_tupOf (K := K) (e_sortDT (e_var (i := 1) rfl rp1) (ros_alike rs) (ros_sortable rs) (fun d hd => ?_) (by omega))) (fun _ => false) H1 fr1 (Same.refl _) _ fun u H2 s2 r2 => ⟨_, rfl, x, C, dx, [], rfl, (s1.trans s2) _ _ hx, TQ.cl, TQ.nK, by decide, ?_⟩
    · obtain ⟨a, _, rfl⟩ := List.mem_map.mp hd
      exact ro_depth a
    · rw [es] at r2
      obtain ⟨o, xs, rfl, ho, rx⟩ := rp_tup r2
      have hx2 := (s1.trans s2) _ _ hx
      have kt : KT H2 (upd H2 x (.ins C dx (tf (.ref o)))) := fun t ys e => by
        rw [upd_ne (ne_of e hx2 (by intro z; cases z))]
        exact e
      refine kQ rs ks rfl hA es pks _ (fun c u hc e => ?_) ⟨x, dx, o, rfl, upd_same, .tup ?_ ((ros_T (rx.mono offS_same)).mono kt.m)⟩
      · rw [upd_ne hc]
        exact (s1.trans s2) _ _ e
      · have e := kt _ _ ho
        unfold tf at e
        unfold onlyT
        rw [e]
end
end Q

set_option maxHeartbeats 400000
namespace Ca
open PySem PySem.Spec PyProof.Rows L2
/-! f-strings -/
def tJoin (ts : List TE) : TE := fun σ H Q => tJs ts PySem.Str.empty σ H fun out H1 => Q (.str out) H1
theorem pe_joinedQ {X : Cx} {v1 v2 : Expr} {rest : List Expr} {ts : List TE} {pos : Pos} (h : PJ X (v1 :: v2 :: rest) ts) : PE X (.JoinedStr (v1 :: v2 :: rest) pos) (tJoin ts) := pe_joined h
section
variable {σ : L2.St} {F : Hp} {te : TE}
theorem e_fmtS {y : PySem.Str} (h : EvD te σ F (.str y)) (hl : y.length ≤ 1000) : EvD (tFmt te) σ F (.str y) := fun S H1 f s Q q => h S H1 f s _ fun v H2 s2 r => by
  cases r
  exact .inl ⟨y, rfl, Nat.le_of_lt (small1000 hl), q _ H2 s2 (.str _)⟩
theorem e_fmtI {i : Int} (h : EvD te σ F (.int i)) (hl : i.natAbs.log2 < 1920) : EvD (tFmt te) σ F (.str (PySem.Str.ofString (toString i))) := fun S H1 f s Q q => h S H1 f s _ fun v H2 s2 r => by
  cases r
  exact .inr ⟨i, rfl, hl, q _ H2 s2 (.str _)⟩
inductive EvJ (σ : L2.St) (F : Hp) : List TE → List PySem.Str → Prop where
  | nil : EvJ σ F [] []
  | cons {t : TE} {ts : List TE} {y : PySem.Str} {ys : List PySem.Str} (h : EvD t σ F (.str y)) (r : EvJ σ F ts ys) : EvJ σ F (t :: ts) (y :: ys)
def lens (ys : List PySem.Str) : Nat := (ys.map (·.length)).sum
theorem e_js {ts : List TE} {ys : List PySem.Str} (h : EvJ σ F ts ys) : ∀ (acc : PySem.Str), acc.length + lens ys ≤ 1000 → ∀ (S : Addr → Bool) (H1 : Hp), Fr S H1 → Same F (offS S H1) → ∀ Q : PySem.Str → Hp → Prop, (∀ H2, Same H1 H2 → Q (ys.foldl (· ++ ·) acc) H2) → tJs ts acc σ H1 Q := by
  induction h with
  | nil => exact fun acc _ S H1 f s Q q => q H1 (Same.refl _)
  | @cons t ts y ys h r ih =>
    intro acc hl S H1 f s Q q
    unfold lens at hl
    rw [List.map_cons, List.sum_cons] at hl
    have ly : (acc ++ y).length = acc.length + y.length := PySem.Str.length_append acc y
    refine h S H1 f s _ fun v H2 s2 r2 => ?_
    cases r2
    exact ⟨y, rfl, Nat.le_of_lt (small1000 (by omega)), ih (acc ++ y) (by unfold lens; omega) S H2 (f.mono s2) (s.trans (offS_mono s2)) Q fun H3 s3 => q H3 (s2.trans s3)⟩
theorem e_joined {ts : List TE} {ys : List PySem.Str} (h : EvJ σ F ts ys) (hl : lens ys ≤ 1000) : EvD (tJoin ts) σ F (.str (ys.foldl (· ++ ·) PySem.Str.empty)) := fun S H1 f s Q q =>
  e_js h PySem.Str.empty (by show 0 + lens ys ≤ 1000; omega) S H1 f s _ fun H2 s2 => q _ H2 s2 (.str _)
end
end Ca
namespace Q
open PySem PySem.Spec PyProof.Rows L2 Ca
/-! ### text_of_rows -/
abbrev s_txr : Stmt := top 28
theorem sc_txr : FnScope ["rows", "kind", "left", "right", "often"] ["rows"] (defScope s_txr) := ⟨rfl, rfl, rfl, by decide +kernel, rfl, by decide +kernel, by decide +kernel⟩
def rowP (a : Ro) : List PySem.Str := [a.k, " ", PySem.Str.ofString (toString a.l), " ", PySem.Str.ofString (toString a.r), " ", PySem.Str.ofString (toString a.n), "\n"]
def rowT (a : Ro) : PySem.Str := (rowP a).foldl (· ++ ·) PySem.Str.empty
def txr (as : List Ro) : PySem.Str := Txt.join "" (as.map rowT)
theorem kind1 {k : PySem.Str} (h : kindOk k = true) : k.length = 1 := by
  unfold kindOk inV at h
  rw [List.any_eq_true] at h
  obtain ⟨y, hy, e⟩ := h
  have : y = V.str k := by
    rcases List.mem_cons.mp hy with z | hy
    · subst z
      simpa [eqV] using e
    · rcases List.mem_cons.mp hy with z | hy
      · subst z
        simpa [eqV] using e
      · rcases List.mem_cons.mp hy with z | hy
        · subst z
          simpa [eqV] using e
        · cases hy
  subst this
  rcases List.mem_cons.mp hy with z | hy
  · injection z with z
    rw [z]
    decide +kernel
  · rcases List.mem_cons.mp hy with z | hy
    · injection z with z
      rw [z]
      decide +kernel
    · rcases List.mem_cons.mp hy with z | hy
      · injection z with z
        rw [z]
        decide +kernel
      · cases hy
theorem log99 {i : Int} (h0 : 0 ≤ i) (h9 : i ≤ 10000) : i.natAbs.log2 < 1920 := by
  have h : i.natAbs < 2 ^ 14 := by
    have : i.natAbs ≤ 10000 := by omega
    omega
  by_cases z : i.natAbs = 0
  · rw [z]
    decide
  · have := (Nat.log2_lt z).mpr h
    omega
theorem num5 {i : Int} (h0 : 0 ≤ i) (h9 : i ≤ 10000) : (PySem.Str.ofString (toString i)).length ≤ 5 := by
  obtain ⟨n, rfl⟩ := Int.eq_ofNat_of_zero_le h0
  have e := TL.tl_num n
  have l := TL.numL_len (n := n) (k := 5) (by decide) (by omega)
  rw [← e] at l
  exact l
theorem rowP_len {a : Ro} (g : GoodR a) : lens (rowP a) ≤ 40 := by
  have h1 := kind1 g.k
  have h2 := num5 g.l0 (by have := g.l9; omega)
  have h3 := num5 g.r0 (by have := g.r9; omega)
  have h4 := num5 (show 0 ≤ a.n by have := g.n1; omega) g.n9
  have h5 : (PySem.Str.ofString " ").length = 1 := by decide +kernel
  have h6 : (PySem.Str.ofString "\n").length = 1 := by decide +kernel
  unfold lens rowP
  simp only [List.map_cons, List.map_nil, List.sum_cons, List.sum_nil]
  omega
theorem fold_len : ∀ (ys : List PySem.Str) (acc : PySem.Str), (ys.foldl (· ++ ·) acc).length = acc.length + lens ys
  | [], acc => rfl
  | y :: ys, acc => by
    rw [List.foldl_cons, fold_len ys]
    have : (acc ++ y).length = acc.length + y.length := PySem.Str.length_append acc y
    unfold lens
    rw [this, List.map_cons, List.sum_cons]
    omega
theorem rowT_len {a : Ro} (g : GoodR a) : (rowT a).length ≤ 40 := by
  unfold rowT
  rw [fold_len]
  have := rowP_len g
  show 0 + lens (rowP a) ≤ 40
  omega
theorem rows_len {as : List Ro} (h : ∀ a ∈ as, GoodR a) : ((as.map rowT).map (·.length)).sum ≤ 40 * as.length := by
  induction as with
  | nil => exact Nat.le_refl _
  | cons a as ih =>
    have h1 := rowT_len (h a (.head _))
    have h2 := ih fun b hb => h b (.tail _ hb)
    rw [List.map_cons, List.map_cons, List.sum_cons, List.length_cons]
    omega
def RTxrT : List PyData → PyData → Prop := fun ds d => ∃ as : List Ro, ds = [.tuple (as.map roD)] ∧ as.length ≤ 1000 ∧ (∀ a ∈ as, GoodR a) ∧ d = .str (txr as)
def RTxrL : List PyData → PyData → Prop := fun ds d => ∃ as : List Ro, ds = [.list (as.map roD)] ∧ as.length ≤ 1000 ∧ (∀ a ∈ as, GoodR a) ∧ d = .str (txr as)
section
variable {P : Program} {w : World} {K : PySem.W.Frag} {mg : PySem.Str → Option Value} {base : Heap}
theorem ok_txrT {f : Addr} {fd : FuncData} (F : FnP K "text_of_rows" s_txr f fd) (T : Tx K mg) : FnOk P w K mg base CX0 1 f fd ["rows"] (spR RTxrT) := by
  refine F.ok sc_txr (spR_len (by rintro _ _ ⟨as, rfl, _⟩; rfl)) (fun cdv A outer s H vs Q E hr h => ?_)
  obtain ⟨S, ds, d, fr, rA, ⟨as, rfl, hz, hg, rfl⟩, q⟩ := h
  obtain ⟨v0, rfl, r0⟩ := rpa1 rA
  refine ⟨_, PSs.nox (pss_one (ps_ret (pe_joinQ (K := K) rfl pe_str (pe_lc (own := [("kind", 1), ("left", 2), ("right", 3), ("often", 4)]) (g := gTup K 4 (gCons (gName 1) (gCons (gName 2) (gCons (gName 3) (gCons (gName 4) gNil))))) rfl sc_txr.nd (pi_tupQ (K := K) rfl (pv 0)) (blkOk_by (own := [("kind", 1), ("left", 2), ("right", 3), ("often", 4)]) (N := ["rows", "kind", "left", "right", "often"]) (sc := defScope s_txr) (by decide +kernel))
    (fun _ _ _ _ _ => pg_tup (by rfl) (pgs_cons (pg_name (i := 1) sc_txr.nd rfl (Or.inl rfl)) (pgs_cons (pg_name (i := 2) sc_txr.nd rfl (Or.inl rfl)) (pgs_cons (pg_name (i := 3) sc_txr.nd rfl (Or.inl rfl)) (pgs_cons (pg_name (i := 4) sc_txr.nd rfl (Or.inl rfl)) pgs_nil))))) (fun _ _ _ _ _ => pts_nil)
    (fun _ _ _ _ _ => pe_joinedQ (.cons (pe_fmt (pv 1)) (.cons pe_str (.cons (pe_fmt (pv 2)) (.cons pe_str (.cons (pe_fmt (pv 3)) (.cons pe_str (.cons (pe_fmt (pv 4)) (.cons pe_str .nil))))))))))))), ?_⟩
  refine go_ret (P := fun H v => Rp H v (.str (txr as))) fr (eqD (e_joinL e_str (e_lcT (enc := roD) (e_var rfl r0) (by omega) fun a ha x F2 sF r => g_tup4 r fun v1 v2 v3 v4 q1 q2 q3 q4 => ⟨rfl, b_yes, fun _ =>
    e_joined (ys := rowP a) (.cons (e_fmtS (e_var rfl q1) ?_) (.cons e_str (.cons (e_fmtI (e_var rfl q2) ?_) (.cons e_str (.cons (e_fmtI (e_var rfl q3) ?_) (.cons e_str (.cons (e_fmtI (e_var rfl q4) ?_) (.cons e_str .nil)))))))) ?_⟩) ?_ ?_) ?_) q
  · rw [kind1 (hg a ha).k]
    decide
  · exact log99 (hg a ha).l0 (by have := (hg a ha).l9; omega)
  · exact log99 (hg a ha).r0 (by have := (hg a ha).r9; omega)
  · exact log99 (by have := (hg a ha).n1; omega) (hg a ha).n9
  · have := rowP_len (hg a ha)
    omega
  · intro d hd
    obtain ⟨a, _, rfl⟩ := List.mem_map.mp hd
    exact ⟨_, rfl⟩
  · rw [filter_yes, List.map_map (g := strD)]
    have e := rows_len hg
    have e1 : (PySem.Str.ofString "").length = 0 := by decide +kernel
    show ((as.map rowT).map (·.length)).sum + (as.map rowT).length * _ ≤ _
    rw [e1]
    omega
  · rw [filter_yes, List.map_map]
    rfl
theorem ok_txrL {f : Addr} {fd : FuncData} (F : FnP K "text_of_rows" s_txr f fd) (T : Tx K mg) : FnOk P w K mg base CX0 1 f fd ["rows"] (spR RTxrL) := by
  refine F.ok sc_txr (spR_len (by rintro _ _ ⟨as, rfl, _⟩; rfl)) (fun cdv A outer s H vs Q E hr h => ?_)
  obtain ⟨S, ds, d, fr, rA, ⟨as, rfl, hz, hg, rfl⟩, q⟩ := h
  obtain ⟨v0, rfl, r0⟩ := rpa1 rA
  refine ⟨_, PSs.nox (pss_one (ps_ret (pe_joinQ (K := K) rfl pe_str (pe_lc (own := [("kind", 1), ("left", 2), ("right", 3), ("often", 4)]) (g := gTup K 4 (gCons (gName 1) (gCons (gName 2) (gCons (gName 3) (gCons (gName 4) gNil))))) rfl sc_txr.nd (pi_listQ (K := K) rfl (pv 0)) (blkOk_by (own := [("kind", 1), ("left", 2), ("right", 3), ("often", 4)]) (N := ["rows", "kind", "left", "right", "often"]) (sc := defScope s_txr) (by decide +kernel))
    (fun _ _ _ _ _ => pg_tup (by rfl) (pgs_cons (pg_name (i := 1) sc_txr.nd rfl (Or.inl rfl)) (pgs_cons (pg_name (i := 2) sc_txr.nd rfl (Or.inl rfl)) (pgs_cons (pg_name (i := 3) sc_txr.nd rfl (Or.inl rfl)) (pgs_cons (pg_name (i := 4) sc_txr.nd rfl (Or.inl rfl)) pgs_nil))))) (fun _ _ _ _ _ => pts_nil)
    (fun _ _ _ _ _ => pe_joinedQ (.cons (pe_fmt (pv 1)) (.cons pe_str (.cons (pe_fmt (pv 2)) (.cons pe_str (.cons (pe_fmt (pv 3)) (.cons pe_str (.cons (pe_fmt (pv 4)) (.cons pe_str .nil))))))))))))), ?_⟩
  refine go_ret (P := fun H v => Rp H v (.str (txr as))) fr (eqD (e_joinL e_str (e_lcL (enc := roD) (e_var rfl r0) (by omega) fun a ha x F2 sF r => g_tup4 r fun v1 v2 v3 v4 q1 q2 q3 q4 => ⟨rfl, b_yes, fun _ =>
    e_joined (ys := rowP a) (.cons (e_fmtS (e_var rfl q1) ?_) (.cons e_str (.cons (e_fmtI (e_var rfl q2) ?_) (.cons e_str (.cons (e_fmtI (e_var rfl q3) ?_) (.cons e_str (.cons (e_fmtI (e_var rfl q4) ?_) (.cons e_str .nil)))))))) ?_⟩) ?_ ?_) ?_) q
  · rw [kind1 (hg a ha).k]
    decide
  · exact log99 (hg a ha).l0 (by have := (hg a ha).l9; omega)
  · exact log99 (hg a ha).r0 (by have := (hg a ha).r9; omega)
  · exact log99 (by have := (hg a ha).n1; omega) (hg a ha).n9
  · have := rowP_len (hg a ha)
    omega
  · intro d hd
    obtain ⟨a, _, rfl⟩ := List.mem_map.mp hd
    exact ⟨_, rfl⟩
  · rw [filter_yes, List.map_map (g := strD)]
    have e := rows_len hg
    have e1 : (PySem.Str.ofString "").length = 0 := by decide +kernel
    show ((as.map rowT).map (·.length)).sum + (as.map rowT).length * _ ≤ _
    rw [e1]
    omega
  · rw [filter_yes, List.map_map]
    rfl
end
end Q

set_option maxHeartbeats 400000
namespace Q
open PySem PySem.Spec PyProof.Rows L2 Ca
/-- the promise of a def: I what its arguments are and what is true of its answer -/
def spQ (I : Hp → List V → (Hp → V → Prop) → Prop) : Sp := fun vs H Q _ => ∃ (S : Addr → Bool) (P : Hp → V → Prop), Fr S H ∧ I (offS S H) vs P ∧ ∀ v H', Same H H' → P (offS S H') v → Q v H'
theorem spQ_len {I : Hp → List V → (Hp → V → Prop) → Prop} {n : Nat} (h : ∀ F vs P, I F vs P → vs.length = n) : ∀ vs H Q E, spQ I vs H Q E → vs.length = n := fun vs H Q E ⟨S, P, f, i, _⟩ => h _ _ _ i
section
variable {K : PySem.W.Frag} {mg : PySem.Str → Option Value} {σ : L2.St} {F : Hp} {ta tb te : TE} {tas : TA} {C N : Addr} {P P0 : Hp → V → Prop} {E : XK} {I : Hp → List V → (Hp → V → Prop) → Prop}
theorem e_prop (h : EvP ta σ F P0) (hi : ∀ F v, P0 F v → I F [v] P ∧ ∃ a dx fs, v = .ref a ∧ F a = some (.ins C dx fs)) : EvP (tProp C (spQ I) [] E ta) σ F P := fun S H1 f s Q q =>
  h S H1 f s _ fun v H2 s2 p => by
    obtain ⟨i, a, dx, fs, rfl, ha⟩ := hi _ v p
    exact ⟨a, dx, fs, rfl, offS_same _ _ ha, S, P, f.mono s2, i, fun v H3 s3 p3 => q v H3 (s2.trans s3) p3⟩
theorem e_meth0 {m : PySem.Str} (h : EvP ta σ F P0) (hi : ∀ F v, P0 F v → I F [v] P ∧ ∃ a dx fs, v = .ref a ∧ F a = some (.ins C dx fs) ∧ fs.lookup m = none) : EvP (tMeth C m (spQ I) [] E ta tNil) σ F P := fun S H1 f s Q q =>
  h S H1 f s _ fun v H2 s2 p => by
    obtain ⟨i, a, dx, fs, rfl, ha, hm⟩ := hi _ v p
    exact ⟨a, dx, fs, rfl, offS_same _ _ ha, hm, S, P, f.mono s2, i, fun v H3 s3 p3 => q v H3 (s2.trans s3) p3⟩
theorem e_call1 (h : EvP ta σ F P0) (hi : ∀ F v, P0 F v → I F [v] P) : EvP (tCall (spQ I) [] E (tCons ta tNil)) σ F P := fun S H1 f s Q q =>
  h S H1 f s _ fun v H2 s2 p => ⟨S, P, f.mono s2, hi _ v p, fun v H3 s3 p3 => q v H3 (s2.trans s3) p3⟩
end
/-! ### Table: rows, len, text -/
abbrev s_trows : Stmt := inClass cT 1
abbrev s_tlen : Stmt := inClass cT 2
abbrev s_ttext : Stmt := inClass cT 11
theorem sc_trows : FnScope ["self"] ["self"] (defScope s_trows) := ⟨rfl, rfl, rfl, by decide +kernel, rfl, by decide +kernel, by decide +kernel⟩
theorem sc_tlen : FnScope ["self"] ["self"] (defScope s_tlen) := ⟨rfl, rfl, rfl, by decide +kernel, rfl, by decide +kernel, by decide +kernel⟩
theorem sc_ttext : FnScope ["self"] ["self"] (defScope s_ttext) := ⟨rfl, rfl, rfl, by decide +kernel, rfl, by decide +kernel, by decide +kernel⟩
theorem tf_kept (o : V) : (tf o).lookup ("kept" : PySem.Str) = some o := by
  unfold tf
  rw [lookup_putF, if_pos rfl]
theorem tf_no (o : V) {m : PySem.Str} (h : ¬ m = "kept") : (tf o).lookup m = none := by
  unfold tf
  rw [lookup_putF, if_neg h]
  rfl
theorem TV.mono {H H' : Hp} {C : Addr} {ks : List Ro} {v : V} (s : Same H H') (h : TV C ks H v) : TV C ks H' v := by
  obtain ⟨x, dx, o, e, h1, r⟩ := h
  exact ⟨x, dx, o, e, s _ _ h1, r.mono (KT.of s).m⟩
theorem TV.off {S : Addr → Bool} {H : Hp} {C : Addr} {ks : List Ro} {v : V} (f : Fr S H) (h : TV C ks H v) : TV C ks (offS S H) v := by
  obtain ⟨x, dx, o, e, h1, r⟩ := h
  refine ⟨x, dx, o, e, by rw [offS_at (f.imm h1 (by rw [MutO, tf_no _ (by decide +kernel)]; simp))]; exact h1, r.mono (KT.m fun t ys z => ?_)⟩
  rw [offS_at (f.imm z (by simp [MutO]))]
  exact z
section
variable {K : PySem.W.Frag} {σ : L2.St} {F : Hp} {ta : TE} {C : Addr} {ks : List Ro}
theorem e_kept (cl : Cls K C) (nK : NoAttr K C "kept") (h : EvP ta σ F (TV C ks)) : EvD (tFld K ta "kept") σ F (.tuple (ks.map roD)) := fun S H1 f s Q q =>
  h S H1 f s _ fun v H2 s2 p => by
    obtain ⟨x, dx, o, rfl, h1, r⟩ := p
    exact ⟨x, C, dx, _, _, rfl, offS_same _ _ h1, cl, nK, tf_kept _, q _ H2 s2 (r.mono onlyT_same)⟩
end
def ITRows (C : Addr) : Hp → List V → (Hp → V → Prop) → Prop := fun F vs P => ∃ v ks, vs = [v] ∧ TV C ks F v ∧ P = fun H v => Rp H v (.tuple (ks.map roD))
def ITLen (C : Addr) : Hp → List V → (Hp → V → Prop) → Prop := fun F vs P => ∃ v ks, vs = [v] ∧ TV C ks F v ∧ P = fun H v => Rp H v (.int ks.length)
def ITText (C : Addr) : Hp → List V → (Hp → V → Prop) → Prop := fun F vs P => ∃ v ks, vs = [v] ∧ TV C ks F v ∧ ks.length ≤ 1000 ∧ (∀ a ∈ ks, GoodR a) ∧ P = fun H v => Rp H v (.str (txr ks))
section
variable {P : Program} {w : World} {K : PySem.W.Frag} {mg : PySem.Str → Option Value} {base : Heap}
theorem ok_trows {f C N : Addr} {fd : FuncData} (F : FnM K "rows" "Table.rows" s_trows f fd) (TQ : TT K mg C N) : FnOk P w K mg base CX0 1 f fd ["self"] (spQ (ITRows C)) := by
  refine F.ok sc_trows (spQ_len (by rintro _ _ _ ⟨v, ks, rfl, _⟩; rfl)) (fun cdv A outer s H vs Q E hr h => ?_)
  obtain ⟨S, P0, fr, ⟨v, ks, rfl, tv, rfl⟩, q⟩ := h
  refine ⟨_, PSs.nox (pss_one (ps_ret (pe_fld (pv 0) rfl))), ?_⟩
  exact go_ret (P := fun H v => Rp H v (.tuple (ks.map roD))) fr (e_kept TQ.cl TQ.nK (e_varP (P := TV C ks) rfl fun _ s => tv.mono s)) q
theorem ok_tlen {f C N : Addr} {fd : FuncData} (F : FnM K "__len__" "Table.__len__" s_tlen f fd) (T : Tx K mg) (TQ : TT K mg C N) : FnOk P w K mg base CX0 1 f fd ["self"] (spQ (ITLen C)) := by
  refine F.ok sc_tlen (spQ_len (by rintro _ _ _ ⟨v, ks, rfl, _⟩; rfl)) (fun cdv A outer s H vs Q E hr h => ?_)
  obtain ⟨S, P0, fr, ⟨v, ks, rfl, tv, rfl⟩, q⟩ := h
  refine ⟨_, PSs.nox (pss_one (ps_ret (pe_callB (call_lenQ : CallR _ _ (rLenQ K)) (by rfl) T.len bLen (pa_cons (pe_fld (pv 0) rfl) pa_nil)))), ?_⟩
  exact go_ret (P := fun H v => Rp H v (.int ks.length)) fr (eqD (e_lenT (e_kept TQ.cl TQ.nK (e_varP (P := TV C ks) rfl fun _ s => tv.mono s))) (by rw [List.length_map])) q
theorem ok_ttext {f C N : Addr} {fd : FuncData} (F : FnM K "text" "Table.text" s_ttext f fd) (TQ : TT K mg C N) (D1 : Fd P w K mg base "text_of_rows" 1 ["rows"] (spR RTxrT)) : FnOk P w K mg base CX0 2 f fd ["self"] (spQ (ITText C)) := by
  obtain ⟨f1, fd1, G1, b1, k1, m1⟩ := D1.ex
  refine F.ok sc_ttext (spQ_len (by rintro _ _ _ ⟨v, ks, rfl, _⟩; rfl)) (fun cdv A outer s H vs Q E hr h => ?_)
  obtain ⟨S, P0, fr, ⟨v, ks, rfl, tv, hz, g, rfl⟩, q⟩ := h
  refine ⟨_, PSs.nox (pss_one (ps_ret (pe_call G1 (hr.mono (by decide)) rfl m1 k1 b1 .nil pass0 (pa_cons (pe_fld (pv 0) rfl) pa_nil)))), ?_⟩
  exact go_ret (P := fun H v => Rp H v (.str (txr ks))) fr (e_call (a_cons (e_kept TQ.cl TQ.nK (e_varP (P := TV C ks) rfl fun _ s => tv.mono s)) a_nil) ⟨ks, rfl, hz, g, rfl⟩) q
end
end Q

set_option maxHeartbeats 400000
namespace Q
open PySem PySem.Spec PyProof.Rows L2 Ca
section
variable {X : Cx} {CX : CXT} {k i : Nat} {f C : Addr} {sp : Sp} {E : XK} {x : PySem.Str} {e : Expr} {te : TE} {p sq pos : Pos}
/-- C(*e), C a class of the module -/
def tGlbStar (K : PySem.W.Frag) (C : Addr) (sp : Sp) (E : XK) (te : TE) : TE := fun σ H Q => te σ H fun y H1 => ∃ a xs, y = V.ref a ∧ (SqT K H1 a xs ∨ SqL K H1 a xs) ∧
  ∀ x dx, H1 x = none → H1 dx = none → dx ≠ x → sp (V.ref x :: xs) (upd (upd H1 dx (.own x)) x (.ins C dx [])) (fun v H2 => v = .non ∧ Q (.ref x) H2) E
theorem pe_glbStar (M : Mk X.K C f) (F : FnR X.prog X.w X.K X.mg X.base CX k f sp) (hr : Room (k + 1) X.A) (hg : Gl X x) (hm : X.mg x = some (.ref C)) (hx : Passes CX X E) (he : PE X e te)
    (hdb : (x == ("__debug__" : PySem.Str)) = false := by decide) (hst : starEach [.Starred e sq] X.env = [(true, eval e X.env)] := by rfl) :
    PE X (.Call (.Name x p) [.Starred e sq] [] pos) (tGlbStar X.K C sp E te) := by
  refine ⟨fun pins s σ H Q I h => wpAny_Call_Name_kw (ld_glob I hg hm ?_ hdb)⟩
  refine PySem.W.callWith_S (h₀ := X.base) I.ok.mod.kin M.kp (thn (he.run pins s σ _ _ I h) fun v s2 ⟨y, H2, I2, ry, a, xs, ey, hxs, q⟩ => ?_) hst
  subst ey
  obtain rfl : v = Value.ref a := ry
  exact StX.star_any I2 hxs fun us s3 I3 rv => ⟨I3.kIn, StX.run_makeR M F hr hx I3 rv q⟩
end
/-! ### table_within_limits, where the rows are those of a table -/
abbrev s_twl : Stmt := top 36
theorem sc_twl : FnScope ["rows"] ["rows"] (defScope s_twl) := ⟨rfl, rfl, rfl, by decide +kernel, rfl, by decide +kernel, by decide +kernel⟩
theorem same2 {H : Hp} {x dx p : Addr} {o1 o2 o3 : HO} (hx : H x = none) (hd : H dx = none) (hp : upd (upd H dx o1) x o2 p = none) : Same H (upd (upd (upd H dx o1) x o2) p o3) := fun b u e => by
  have n1 : b ≠ dx := ne_of_none e hd
  have n2 : b ≠ x := ne_of_none e hx
  have e2 : upd (upd H dx o1) x o2 b = some u := by rw [upd_ne n2, upd_ne n1]; exact e
  rw [upd_ne (ne_of_none e2 hp)]
  exact e2
section
variable {K : PySem.W.Frag} {σ : L2.St} {F : Hp} {te : TE} {C N : Addr} {E : XK}
/-- Table(*x), x a list of rows -/
theorem e_tabStar {rs ks : List Ro} (h : EvD te σ F (.list (rs.map roD))) (hA : AreR (rs.map roD)) (hk : srtD (rs.map roD) = ks.map roD) : EvP (tGlbStar K C (spTInitR C N) E te) σ F (TV C ks) := fun S H1 f s Q q =>
  h S H1 f s _ fun v H2 s2 r => by
    obtain ⟨a, xs, rfl, ha, rx⟩ := rp_lst r
    have lx : xs.length ≤ 12 := by
      have := hA.1
      rw [rx.length]
      exact this
    refine ⟨a, xs, rfl, .inr (.inl (.inl ha)), fun x dx hx hd ndx => ⟨[.ref x], xs, rfl, rfl, Nat.le_of_lt (small1000 (by omega)), fun p hp => ?_⟩⟩
    have sm := same2 (o1 := .own x) (o2 := .ins C dx []) (o3 := .tup xs) hx hd hp
    have npx : x ≠ p := fun z => by
      rw [← z, upd_same] at hp
      cases hp
    refine ⟨x, dx, p, rs.map roD, true, rfl, by rw [upd_ne npx, upd_same], .tup upd_same ((rx.mono offS_same).mono sm), by have := hA.1; omega, ⟨fun _ => hA, fun _ => rfl⟩, (fun z => by cases z), fun rs' ks' e' _ ek pk H' keep tv => ⟨rfl, ?_⟩⟩
    have ekk : ks' = ks := roD_inj (ek.symm.trans hk)
    subst ekk
    have sH : Same H2 H' := fun b u e => keep b u (ne_of_none e hx) (sm b u e)
    exact q _ H' (s2.trans sH) (tv.off ((f.mono s2).mono sH))
end
def ITwl (C : Addr) : Hp → List V → (Hp → V → Prop) → Prop := fun F vs P => ∃ (v : V) (rs ks : List Ro), vs = [v] ∧ Rp F v (.list (rs.map roD)) ∧ AreR (rs.map roD) ∧ srtD (rs.map roD) = ks.map roD ∧ P = TV C ks
section
variable {P : Program} {w : World} {K : PySem.W.Frag} {mg : PySem.Str → Option Value} {base : Heap}
theorem ok_twl {f C N fI : Addr} {fd : FuncData} (F : FnP K "table_within_limits" s_twl f fd) (M : Mk K C fI) (GI : FnR P w K mg base (L2.CX P w) 6 fI (spTInitR C N)) (gC : mg "Table" = some (.ref C)) (D1 : Fd P w K mg base "are_rows" 5 ["things"] (spR RRowsL)) :
    FnOk P w K mg base CX0 8 f fd ["rows"] (spQ (ITwl C)) := by
  obtain ⟨f1, fd1, G1, b1, k1, m1⟩ := D1.ex
  refine F.ok sc_twl (spQ_len (by rintro _ _ _ ⟨v, rs, ks, rfl, _⟩; rfl)) (fun cdv A outer s H vs Q E hr h => ?_)
  obtain ⟨S, P0, fr, ⟨v0, rs, ks, rfl, r0, hA, hk, rfl⟩, q⟩ := h
  refine ⟨_, PSs.nox (pss_cons (ps_if (pt_not (pt_val (pe_call G1 (hr.mono (by decide)) rfl m1 k1 b1 .nil pass0 (pa_cons (pv 0) pa_nil)))) pss_never pss_nil) (pss_one (ps_ret (pe_glbStar M GI (hr.mono (by decide)) rfl gC passL (pv 0))))), ?_⟩
  have hR : RRowsL [.list (rs.map roD)] (.bool true) := ⟨rs.map roD, true, rfl, by have := hA.1; omega, rfl, ⟨fun _ => hA, fun _ => rfl⟩⟩
  refine go_ifS (b := false) fr (b_not (b_val (e_call (a_cons (e_var rfl r0) a_nil) hR))) (fun z => by cases z) fun _ H1 s1 fr1 => ?_
  exact go_ret (P := TV C ks) fr1 (e_tabStar (N := N) (e_var rfl (r0.mono (offS_mono (S := S) s1))) hA hk) fun v H2 s2 p2 => q v H2 (s1.trans s2) p2
end
end Q

set_option maxHeartbeats 400000
namespace Q
open PySem PySem.Spec PyProof.Rows L2 Ca
/-! ### number_of_word: of what text() writes -/
abbrev dg (i : Int) : PySem.Str := PySem.Str.ofString (toString i)
abbrev s_now : Stmt := top 6
theorem sc_now : FnScope ["word"] ["word"] (defScope s_now) := ⟨rfl, rfl, rfl, by decide +kernel, rfl, by decide +kernel, by decide +kernel⟩
theorem dig_uni : ∀ c, 48 ≤ c → c ≤ 57 → Unicode.isDigit c = true := by
  have h : ∀ c, c < 58 → 48 ≤ c → Unicode.isDigit c = true := by decide +kernel
  exact fun c a b => h c (by omega) a
theorem dg_facts {i : Int} (h0 : 0 ≤ i) (h9 : i ≤ 10000) : (dg i).length ≤ 5 ∧ Txt.isascii (dg i) = true ∧ Txt.isdigit (dg i) = true ∧ PySem.intText? (dg i) = some i := by
  have l5 := num5 h0 h9
  obtain ⟨n, rfl⟩ := Int.eq_ofNat_of_zero_le h0
  have e : (dg ((n : Nat) : Int)).cps.toList = TL.numL n := TL.tl_num n
  have dgs := TL.numL_digits n
  have len : (TL.numL n).length ≤ 5 := by
    rw [← e, Array.length_toList]
    exact l5
  refine ⟨l5, ?_, ?_, TL.int_num (by omega)⟩
  · unfold Txt.isascii
    rw [← Array.all_toList, e]
    exact List.all_eq_true.mpr fun c hc => decide_eq_true (by have := (dgs c hc).2; omega)
  · unfold Txt.isdigit
    rw [← Array.all_toList, e, Bool.and_eq_true]
    refine ⟨decide_eq_true ?_, List.all_eq_true.mpr fun c hc => dig_uni c (dgs c hc).1 (dgs c hc).2⟩
    have : 0 < (TL.numL n).length := List.length_pos_iff.mpr (TL.numL_ne n)
    rw [← e, Array.length_toList] at this
    exact this
def spNow : Sp := fun vs H Q _ => ∃ i : Int, vs = [.str (dg i)] ∧ 0 ≤ i ∧ i ≤ 10000 ∧ Q (.int i) H
def RNow : List PyData → PyData → Prop := fun ds d => ∃ i : Int, ds = [.str (dg i)] ∧ 0 ≤ i ∧ i ≤ 10000 ∧ d = .int i
theorem now_imp : ∀ vs H Q E, spR RNow vs H Q E → spNow vs H Q E := by
  rintro vs H Q E ⟨S, ds, d, f, r, ⟨i, rfl, h0, h9, rfl⟩, q⟩
  obtain ⟨v, rfl, r1⟩ := rpa1 r
  cases r1
  exact ⟨i, rfl, h0, h9, q _ H (Same.refl _) (.int _)⟩
section
variable {P : Program} {w : World} {K : PySem.W.Frag} {mg : PySem.Str → Option Value} {base : Heap}
theorem ok_now {f : Addr} {fd : FuncData} (F : FnP K "number_of_word" s_now f fd) (T : Tx K mg) (hL : ∃ t, mg "LONGEST_NUMBER" = some (.int 5 t)) : FnOk P w K mg base CX0 1 f fd ["word"] spNow := by
  obtain ⟨tL, gL⟩ := hL
  refine F.ok sc_now (fun vs H Q E h => ?_) (fun cdv A outer s H vs Q E hr h => ?_)
  · obtain ⟨i, rfl, _⟩ := h
    rfl
  · obtain ⟨i, rfl, h0, h9, q⟩ := h
    obtain ⟨l, a1, a2, a3⟩ := dg_facts h0 h9
    refine ⟨_, PSs.nox (pss_cons (ps_if (PW.pt (pw_or (pt_cmpR op_gt (pe_callB call_len_str (by rfl) T.len bLen (pa_cons (pv 0) pa_nil)) (pe_glob (v := .int 5) rfl gL ⟨tL, rfl⟩) (nomark _)) (pw_or (pt_not (pt_val (pe_m0 PySem.F.slot_str_isascii PySem.F.type_str_isascii mt_isascii (pv 0)))) (pw_or1 (pt_not (pt_val (pe_m0 PySem.F.slot_str_isdigit PySem.F.type_str_isdigit mt_isdigit (pv 0)))))))) (pss_one (ps_ret (pe_un un_neg pe_int))) pss_nil)
      (pss_one (ps_ret (pe_callTy call_int_str (by rfl) T.int bInt (pa_cons (pv 0) pa_nil))))), ?_⟩
    refine ⟨_, rfl, _, rfl, Nat.le_trans l (by decide), _, 5, rfl, rfl, _, rfl, ?_⟩
    have e : decide ((5 : Int) < ((dg i).length : Nat)) = false := decide_eq_false (by omega)
    rw [e]
    refine iteF ⟨_, rfl, ⟨_, rfl⟩, _, rfl, rfl, trivial, _, rfl, ?_⟩
    rw [a1]
    refine iteF ⟨_, rfl, ⟨_, rfl⟩, _, rfl, rfl, trivial, _, rfl, ?_⟩
    rw [a2]
    exact iteF ⟨_, rfl, _, i, rfl, a3, Nat.le_trans l (by decide), q⟩
end
end Q

set_option maxHeartbeats 400000
namespace Ca
open PySem PySem.Spec PyProof.Rows L2
def rSplitQ : V → List V → Hp → VK → Prop := fun x xs H Q => ∃ a b, x = .str a ∧ xs = [.str b] ∧ (b.length == 0) = false ∧ a.length + 2 ≤ sizeLine ∧ rNewStrs (Txt.split a b) H Q
theorem pe_splitQ {X : Cx} {o e : Expr} {to te : TE} {apos pos : Pos} (ho : PE X o to) (he : PE X e te) (hs : starEach [e] X.env = [(false, eval e X.env)] := by rfl) (hbase : attributeBase o "split" X.env (eval o X.env) = eval o X.env := by rfl) (hline : (apos.endLine == pos.line) = true := by rfl) :
    PE X (.Call (.Attribute o "split" apos) [e] [] pos) (tM1 rSplitQ to te) := pe_split ho he hs hbase hline
section
variable {K : PySem.W.Frag} {σ : L2.St} {F : Hp} {ta tb te : TE} {tas : TA} {ds es : List PyData}
theorem rp_strs {H : Hp} : ∀ ws : List PySem.Str, RpA H (ws.map V.str) (ws.map PyData.str)
  | [] => .nil
  | w :: ws => .cons (.str w) (rp_strs ws)
theorem e_split {a b : PySem.Str} (ha : EvD ta σ F (.str a)) (hb : EvD tb σ F (.str b)) (h0 : (b.length == 0) = false) (hl : a.length ≤ 900) : EvD (tM1 rSplitQ ta tb) σ F (.list ((Txt.split a b).map .str)) := fun S H1 f s Q q =>
  ha S H1 f s _ fun v H2 s2 r2 => by
    cases r2
    refine ⟨⟨_, rfl⟩, hb S H2 (f.mono s2) (s.trans (offS_mono s2)) _ fun w H3 s3 r3 => ?_⟩
    cases r3
    refine ⟨a, b, rfl, rfl, h0, Nat.le_of_lt (small1000 (by omega)), fun p hp => q _ _ ((s2.trans s3).trans (same_new hp)) (.lst (offS_new ((f.mono s2).mono s3) hp) (rp_strs _))⟩
theorem a_starL (h : EvD te σ F (.list es)) (hs : EvA tas σ F ds) : EvA (StX.tStar K te tas) σ F (es ++ ds) := fun S H1 f s Q q =>
  h S H1 f s _ fun v H2 s2 r => by
    obtain ⟨a, xs, rfl, ha, rx⟩ := rp_lst r
    exact ⟨a, xs, rfl, .inr (.inl (.inl ha)), hs S H2 (f.mono s2) (s.trans (offS_mono s2)) _ fun ys H3 s3 ry => q _ H3 (s2.trans s3) ((rx.mono (offS_mono s3)).append ry)⟩
end
end Ca
namespace Q
open PySem PySem.Spec PyProof.Rows L2 Ca
/-! ### row_of_line: of what text() writes -/
abbrev s_rol : Stmt := top 29
theorem sc_rol : FnScope ["line", "words", "numbers", "word"] ["line"] (defScope s_rol) := ⟨rfl, rfl, rfl, by decide +kernel, rfl, by decide +kernel, by decide +kernel⟩
def rowL (a : Ro) : List PySem.Str := [a.k, dg a.l, dg a.r, dg a.n]
def rowW (a : Ro) : PySem.Str := Txt.join " " (rowL a)
def RRol : List PyData → PyData → Prop := fun ds d => ∃ a : Ro, ds = [.str (rowW a)] ∧ GoodR a ∧ d = roD a
theorem no_sp {a : Ro} (g : GoodR a) : ∀ p ∈ rowL a, (32 : Nat) ∉ p.cps.toList := by
  have num : ∀ {i : Int}, 0 ≤ i → (32 : Nat) ∉ (dg i).cps.toList := fun {i} h0 hm => by
    obtain ⟨n, rfl⟩ := Int.eq_ofNat_of_zero_le h0
    have e : (dg ((n : Nat) : Int)).cps.toList = TL.numL n := TL.tl_num n
    rw [e] at hm
    have := (TL.numL_digits n 32 hm).1
    omega
  intro p hp
  rcases List.mem_cons.mp hp with e | hp
  · rw [e]
    have k := g.k
    unfold kindOk inV at k
    rw [List.any_eq_true] at k
    obtain ⟨y, hy, ey⟩ := k
    rcases List.mem_cons.mp hy with z | hy
    · subst z
      have e1 : PySem.Str.ofString "A" = a.k := by simpa [eqV] using ey
      rw [← e1]
      decide +kernel
    · rcases List.mem_cons.mp hy with z | hy
      · subst z
        have e1 : PySem.Str.ofString "B" = a.k := by simpa [eqV] using ey
        rw [← e1]
        decide +kernel
      · rcases List.mem_cons.mp hy with z | hy
        · subst z
          have e1 : PySem.Str.ofString "C" = a.k := by simpa [eqV] using ey
          rw [← e1]
          decide +kernel
        · cases hy
  · rcases List.mem_cons.mp hp with e | hp
    · rw [e]; exact num g.l0
    · rcases List.mem_cons.mp hp with e | hp
      · rw [e]; exact num g.r0
      · rcases List.mem_cons.mp hp with e | hp
        · rw [e]; exact num (by have := g.n1; omega)
        · cases hp
theorem split_row {a : Ro} (g : GoodR a) : Txt.split (rowW a) " " = rowL a := by
  unfold rowW
  exact TL.split_join (y := " ") (s := 32) (S := []) (by decide +kernel) (by decide +kernel) (by simp [rowL]) (no_sp g)
theorem rowW_len {a : Ro} (g : GoodR a) : (rowW a).length ≤ 40 := by
  have z := StrLaws.join_length_le " " (rowL a)
  have e1 : (PySem.Str.ofString " ").length = 1 := by decide +kernel
  have h1 := kind1 g.k
  have h2 : (dg a.l).length ≤ 5 := num5 g.l0 (by have := g.l9; omega)
  have h3 : (dg a.r).length ≤ 5 := num5 g.r0 (by have := g.r9; omega)
  have h4 : (dg a.n).length ≤ 5 := num5 (show 0 ≤ a.n by have := g.n1; omega) g.n9
  unfold rowW
  rw [TL.join_eq]
  unfold rowL at z ⊢
  simp only [List.map_cons, List.map_nil, List.sum_cons, List.sum_nil, List.length_cons, List.length_nil, e1] at z
  omega
section
variable {P : Program} {w : World} {K : PySem.W.Frag} {mg : PySem.Str → Option Value} {base : Heap}
theorem ok_rol {f : Addr} {fd : FuncData} (F : FnP K "row_of_line" s_rol f fd) (T : Tx K mg) (D1 : Fd P w K mg base "number_of_word" 1 ["word"] (spR RNow)) : FnOk P w K mg base CX0 2 f fd ["line"] (spR RRol) := by
  obtain ⟨f1, fd1, G1, b1, k1, m1⟩ := D1.ex
  refine F.ok sc_rol (spR_len (by rintro _ _ ⟨a, rfl, _⟩; rfl)) (fun cdv A outer s H vs Q E hr h => ?_)
  obtain ⟨S, ds, d, fr, rA, ⟨a, rfl, g, rfl⟩, q⟩ := h
  obtain ⟨v0, rfl, r0⟩ := rpa1 rA
  refine ⟨_, PSs.nox (pss_cons (ps_set (i := 1) sc_rol.nd rfl (.inl rfl) (pe_splitQ (pv 0) pe_str))
    (pss_cons (ps_setLc (i := 2) (own := [("word", 3)]) (g := gName 3) (by rfl) sc_rol.nd rfl rfl (sw_true rfl rfl rfl (by decide +kernel)) (pi_listQ (K := K) rfl (pe_slice (sl_list : SlR _ (rSlL K)) (pv 1) (po_some pe_int) po_none))
      (blkOk_by (own := [("word", 3)]) (N := ["line", "words", "numbers", "word"]) (sc := defScope s_rol) (by decide +kernel)) (fun _ _ _ _ _ => pg_name (i := 3) sc_rol.nd rfl (Or.inl rfl)) (fun _ _ _ _ _ => pts_nil) (fun _ _ _ _ _ => pe_call G1 (hr.mono (by decide)) rfl m1 k1 b1 .nil pass0 (pa_cons (pv 3) pa_nil)))
    (pss_one (ps_ret (pe_tup (pa_cons (pe_ix (ix_list : IxR _ (rIxL K)) (pv 1) pe_int (fun _ _ => rfl)) (StX.pa_star (pv 2) pa_nil))))))), ?_⟩
  have wl := rowW_len g
  refine go_setS (P := fun H v => Rp H v (.list ((rowL a).map .str))) fr (eqD (e_split (e_var rfl r0) e_str (by decide +kernel) (by omega)) (by rw [split_row g])) fun v1 H1 s1 fr1 r1 => ?_
  refine go_setS (P := fun H v => Rp H v (.list ([a.l, a.r, a.n].map .int))) fr1 (eqD (e_lcL (enc := fun i : Int => PyData.str (dg i)) (as := [a.l, a.r, a.n]) (b := fun _ => true) (ev := fun i => PyData.int i) (eqD (e_slL (e_var rfl r1) (o_some e_int) o_none) rfl) (Nat.le_of_ble_eq_true rfl) fun i hi x F2 sF r => g_name ⟨rfl, b_yes, fun _ => e_call (a_cons (e_var rfl r) a_nil) ⟨i, rfl, ?_, ?_, rfl⟩⟩) rfl) fun v2 H2 s2 fr2 r2 => ?_
  · rcases List.mem_cons.mp hi with e | hi
    · rw [e]; exact g.l0
    · rcases List.mem_cons.mp hi with e | hi
      · rw [e]; exact g.r0
      · rw [List.mem_singleton.mp hi]; have := g.n1; omega
  · rcases List.mem_cons.mp hi with e | hi
    · rw [e]; have := g.l9; omega
    · rcases List.mem_cons.mp hi with e | hi
      · rw [e]; have := g.r9; omega
      · rw [List.mem_singleton.mp hi]; exact g.n9
  · exact go_ret (P := fun H v => Rp H v (roD a)) fr2 (e_tup (ds := [.str a.k, .int a.l, .int a.r, .int a.n]) (a_cons (e_ixL (n := 0) (e_var rfl (r1.mono (offS_mono (S := S) s2))) e_int rfl rfl) (a_starL (es := [.int a.l, .int a.r, .int a.n]) (ds := []) (e_var rfl r2) a_nil)) (Nat.le_of_ble_eq_true rfl)) fun v H3 s3 r3 => q v H3 (s1.trans (s2.trans s3)) r3
end
end Q

set_option maxHeartbeats 400000
namespace Q
open PySem PySem.Spec PyProof.Rows L2 Ca
/-! ### the text of a table, split at its line feeds -/
theorem str_same {x y : PySem.Str} (h : TL.tl x = TL.tl y) : x = y := TL.ext_tl h
theorem rowT_eq (a : Ro) : rowT a = rowW a ++ "\n" := by
  refine str_same ?_
  have e : TL.tl PySem.Str.empty = [] := rfl
  have j : TL.tl (rowW a) = TL.tl a.k ++ (TL.tl " " ++ (TL.tl (dg a.l) ++ (TL.tl " " ++ (TL.tl (dg a.r) ++ (TL.tl " " ++ TL.tl (dg a.n)))))) := by
    unfold rowW
    rw [TL.join_eq, TL.tl_join]
    rfl
  rw [TL.tl_append, j]
  unfold rowT rowP
  simp only [List.foldl_cons, List.foldl_nil, TL.tl_append, e, List.nil_append, List.append_assoc]
theorem tl_txr : ∀ as : List Ro, TL.tl (txr as) = TL.joinL (TL.tl "\n") ((as.map rowW ++ [PySem.Str.ofString ""]).map TL.tl)
  | [] => by
    unfold txr
    rw [TL.join_eq, TL.tl_join]
    rfl
  | [a] => by
    unfold txr
    rw [TL.join_eq, TL.tl_join]
    show TL.tl (rowT a) = TL.tl (rowW a) ++ (TL.tl "\n" ++ TL.tl "")
    rw [rowT_eq, TL.tl_append]
    rfl
  | a :: b :: as => by
    have ih := tl_txr (b :: as)
    unfold txr at ih ⊢
    rw [TL.join_eq, TL.tl_join] at ih ⊢
    have e0 : TL.tl "" = [] := rfl
    show TL.tl (rowT a) ++ (TL.tl "" ++ TL.joinL (TL.tl "") (((b :: as).map rowT).map TL.tl)) = TL.tl (rowW a) ++ (TL.tl "\n" ++ TL.joinL (TL.tl "\n") (((b :: as).map rowW ++ [PySem.Str.ofString ""]).map TL.tl))
    rw [ih, rowT_eq, TL.tl_append, e0, List.nil_append, List.append_assoc]
theorem txr_join (as : List Ro) : txr as = Txt.join "\n" (as.map rowW ++ [PySem.Str.ofString ""]) := by
  refine str_same ?_
  rw [tl_txr, TL.join_eq, TL.tl_join]
theorem cut_last (ds : List PyData) (d : PyData) : Ca.cutD (ds ++ [d]) none (some (-1)) = ds := by
  unfold Ca.cutD
  rw [HT.sIx_none]
  have e : HT.sIx (ds ++ [d]).length (ds ++ [d]).length (some (-1)) = ds.length := by
    unfold HT.sIx
    rw [List.length_append]
    simp
    try omega
  rw [e, Nat.sub_zero, List.drop_zero, List.take_left]
end Q

set_option maxHeartbeats 400000
namespace Q
open PySem PySem.Spec PyProof.Rows L2 Ca
section
variable {X : Cx} {CX : CXT} {k i : Nat} {f C : Addr} {sp : Sp} {E : XK} {x : PySem.Str} {e : Expr} {te : TE} {p sq pos : Pos}
/-- cls(*e), the i-th slot holds the class at C -/
def tClsStar (K : PySem.W.Frag) (C : Addr) (i : Nat) (sp : Sp) (E : XK) (te : TE) : TE := fun σ H Q => σ[i]? = some (some (.ref C)) ∧ te σ H fun y H1 => ∃ a xs, y = V.ref a ∧ (SqT K H1 a xs ∨ SqL K H1 a xs) ∧
  ∀ x dx, H1 x = none → H1 dx = none → dx ≠ x → sp (V.ref x :: xs) (upd (upd H1 dx (.own x)) x (.ins C dx [])) (fun v H2 => v = .non ∧ Q (.ref x) H2) E
theorem pe_clsStar (M : Mk X.K C f) (F : FnR X.prog X.w X.K X.mg X.base CX k f sp) (hr : Room (k + 1) X.A) (hN : X.N[i]? = some x) (hv : Vis X.env.scope x) (hx : Passes CX X E) (he : PE X e te)
    (hdb : (x == ("__debug__" : PySem.Str)) = false := by decide) (hcd : (x == ("__classdict__" : PySem.Str)) = false := by decide) (hst : starEach [.Starred e sq] X.env = [(true, eval e X.env)] := by rfl) :
    PE X (.Call (.Name x p) [.Starred e sq] [] pos) (tClsStar X.K C i sp E te) := by
  refine ⟨fun pins s σ H Q I h => ?_⟩
  obtain ⟨h0, h⟩ := h
  refine wpAny_Call_Name_kw (thn ((pe_var (pos := p) hN hv hdb hcd).run pins s σ H (fun v H1 => v = .ref C ∧ H1 = H) I ⟨.ref C, h0, rfl, rfl⟩) fun u s1 ⟨v, H1, I1, r1, e1, e2⟩ => ?_)
  subst e1 e2
  obtain rfl : u = Value.ref C := r1
  refine PySem.W.callWith_S (h₀ := X.base) I1.ok.mod.kin M.kp (thn (he.run pins s1 σ _ _ I1 h) fun v s2 ⟨y, H2, I2, ry, a, xs, ey, hxs, q⟩ => ?_) hst
  subst ey
  obtain rfl : v = Value.ref a := ry
  exact StX.star_any I2 hxs fun us s3 I3 rv => ⟨I3.kIn, StX.run_makeR M F hr hx I3 rv q⟩
end
section
variable {K : PySem.W.Frag} {σ : L2.St} {F : Hp} {ta te : TE} {C N : Addr} {E : XK} {d : PyData}
theorem e_isiS (h : EvD ta σ F d) : EvD (tCB (rIsi K) (tCons ta (tCons (tC (.ty "str")) tNil))) σ F (.bool (isStr d)) := fun S H1 f s Q q => h S H1 f s _ fun v H2 s2 r =>
  ⟨_, _, _, _, _, rfl, .ty _, (r.mono offS_same).ty, kStr d, q _ H2 s2 (.bl _)⟩
/-- cls(*x), x a list of rows -/
theorem e_clsStar {i : Nat} {rs ks : List Ro} (h0 : σ[i]? = some (some (.ref C))) (h : EvD te σ F (.list (rs.map roD))) (hA : AreR (rs.map roD)) (hk : srtD (rs.map roD) = ks.map roD) : EvP (tClsStar K C i (spTInitR C N) E te) σ F (TV C ks) := fun S H1 f s Q q =>
  ⟨h0, e_tabStar (K := K) (C := C) (N := N) (E := E) h hA hk S H1 f s Q q⟩
end
/-! ### Table.read: of what text() writes -/
abbrev s_tread : Stmt := inClass cT 12
theorem sc_tread : FnScope ["cls", "text", "rows", "line"] ["cls", "text"] (defScope s_tread) := ⟨rfl, rfl, rfl, by decide +kernel, rfl, by decide +kernel, by decide +kernel⟩
def ITRead (C : Addr) : Hp → List V → (Hp → V → Prop) → Prop := fun F vs P => ∃ ks : List Ro, vs = [.ref C, .str (txr ks)] ∧ AreR (ks.map roD) ∧ (∀ a ∈ ks, GoodR a) ∧ srtD (ks.map roD) = ks.map roD ∧ P = TV C ks
theorem tl_rowW (a : Ro) : TL.tl (rowW a) = TL.tl a.k ++ (TL.tl " " ++ (TL.tl (dg a.l) ++ (TL.tl " " ++ (TL.tl (dg a.r) ++ (TL.tl " " ++ TL.tl (dg a.n)))))) := by
  unfold rowW
  rw [TL.join_eq, TL.tl_join]
  rfl
theorem no_lf {a : Ro} (g : GoodR a) : (10 : Nat) ∉ TL.tl (rowW a) := by
  have num : ∀ {i : Int}, 0 ≤ i → (10 : Nat) ∉ TL.tl (dg i) := fun {i} h0 hm => by
    obtain ⟨n, rfl⟩ := Int.eq_ofNat_of_zero_le h0
    rw [show TL.tl (dg ((n : Nat) : Int)) = TL.numL n from TL.tl_num n] at hm
    have := (TL.numL_digits n 10 hm).1
    omega
  have sp : (10 : Nat) ∉ TL.tl " " := by decide +kernel
  have kk : (10 : Nat) ∉ TL.tl a.k := by
    have k := g.k
    unfold kindOk inV at k
    rw [List.any_eq_true] at k
    obtain ⟨y, hy, ey⟩ := k
    rcases List.mem_cons.mp hy with z | hy
    · subst z
      have e1 : PySem.Str.ofString "A" = a.k := by simpa [eqV] using ey
      rw [← e1]
      decide +kernel
    · rcases List.mem_cons.mp hy with z | hy
      · subst z
        have e1 : PySem.Str.ofString "B" = a.k := by simpa [eqV] using ey
        rw [← e1]
        decide +kernel
      · rcases List.mem_cons.mp hy with z | hy
        · subst z
          have e1 : PySem.Str.ofString "C" = a.k := by simpa [eqV] using ey
          rw [← e1]
          decide +kernel
        · cases hy
  have n1 := num g.l0
  have n2 := num g.r0
  have n3 := num (show 0 ≤ a.n by have := g.n1; omega)
  rw [tl_rowW]
  simp only [List.mem_append, not_or]
  exact ⟨kk, sp, n1, sp, n2, sp, n3⟩
theorem split_txr {as : List Ro} (g : ∀ a ∈ as, GoodR a) : Txt.split (txr as) "\n" = as.map rowW ++ [PySem.Str.ofString ""] := by
  rw [txr_join]
  refine TL.split_join (y := "\n") (s := 10) (S := []) (by decide +kernel) (by decide +kernel) (by simp) fun p hp => ?_
  rcases List.mem_append.mp hp with z | z
  · obtain ⟨a, ha, rfl⟩ := List.mem_map.mp z
    exact no_lf (g a ha)
  · rw [List.mem_singleton.mp z]
    decide +kernel
theorem txr_len {as : List Ro} (g : ∀ a ∈ as, GoodR a) (h : as.length ≤ 12) : (txr as).length ≤ 600 := by
  have z := StrLaws.join_length_le "" (as.map rowT)
  have r := rows_len g
  have e1 : (PySem.Str.ofString "").length = 0 := by decide +kernel
  rw [e1] at z
  unfold txr
  rw [TL.join_eq]
  omega
section
variable {P : Program} {w : World} {K : PySem.W.Frag} {mg : PySem.Str → Option Value} {base : Heap}
theorem ok_tread {f C N fI : Addr} {fd : FuncData} (F : FnM K "read" "Table.read" s_tread f fd) (T : Tx K mg) (M : Mk K C fI) (GI : FnR P w K mg base (L2.CX P w) 6 fI (spTInitR C N)) (D1 : Fd P w K mg base "row_of_line" 2 ["line"] (spR RRol))
    (D2 : Fd P w K mg base "are_rows" 5 ["things"] (spR RRowsL)) (D3 : Fd P w K mg base "text_of_rows" 1 ["rows"] (spR RTxrL)) : FnOk P w K mg base CX0 8 f fd ["cls", "text"] (spQ (ITRead C)) := by
  obtain ⟨f1, fd1, G1, b1, k1, m1⟩ := D1.ex
  obtain ⟨f2, fd2, G2, b2, k2, m2⟩ := D2.ex
  obtain ⟨f3, fd3, G3, b3, k3, m3⟩ := D3.ex
  refine F.ok sc_tread (spQ_len (by rintro _ _ _ ⟨ks, rfl, _⟩; rfl)) (fun cdv A outer s H vs Q E hr h => ?_)
  obtain ⟨S, P0, fr, ⟨ks, rfl, hA, g, hs, rfl⟩, q⟩ := h
  have l12 : ks.length ≤ 12 := by
    have := hA.1
    rw [List.length_map] at this
    exact this
  refine ⟨_, PSs.nox (pss_cons (ps_if (pt_not (pt_val (pe_callB (call_isi : CallR _ _ (rIsi K)) (by rfl) T.isi bIsi (pa_cons (pv 1) (pa_cons (pe_bltn (v := .ty "str") (by rfl) T.str bStr rfl) pa_nil))))) pss_never pss_nil)
    (pss_cons (ps_setLc (i := 2) (own := [("line", 3)]) (g := gName 3) (by rfl) sc_tread.nd rfl rfl (sw_true rfl rfl rfl (by decide +kernel)) (pi_listQ (K := K) rfl (pe_slice (sl_list : SlR _ (rSlL K)) (pe_splitQ (pv 1) pe_str) po_none (po_some (pe_un un_neg pe_int))))
      (blkOk_by (own := [("line", 3)]) (N := ["cls", "text", "rows", "line"]) (sc := defScope s_tread) (by decide +kernel)) (fun _ _ _ _ _ => pg_name (i := 3) sc_tread.nd rfl (Or.inl rfl)) (fun _ _ _ _ _ => pts_nil) (fun _ _ _ _ _ => pe_call G1 (hr.mono (by decide)) rfl m1 k1 b1 .nil pass0 (pa_cons (pv 3) pa_nil)))
    (pss_cons (ps_if (PW.pt (pw_or (pt_not (pt_val (pe_call G2 (hr.mono (by decide)) rfl m2 k2 b2 .nil pass0 (pa_cons (pv 2) pa_nil)))) (pw_or1 (pt_cmpR op_ne (pe_call G3 (hr.mono (by decide)) rfl m3 k3 b3 .nil pass0 (pa_cons (pe_callB (cr_sortD T.sm (hr.mono (Nat.le_refl _)) : CallR _ _ rSortD) (by rfl) T.sorted bSorted (pa_cons (pv 2) pa_nil)) pa_nil)) (pv 1) (nomark _))))) pss_never pss_nil)
    (pss_one (ps_ret (pe_clsStar (i := 0) M GI (hr.mono (by decide)) rfl (Or.inl rfl) passL (pv 2))))))), ?_⟩
  refine go_ifS (b := false) fr (b_not (b_val (e_isiS (K := K) (e_var rfl (.str (txr ks)))))) (fun z => by cases z) fun _ H1 s1 fr1 => ?_
  have neg : ∀ {σ : L2.St} {F : Hp}, EvD (tUn (rU fun i => .int (-i)) (tC (.int 1))) σ F (.int (-1)) := fun {σ F} S H1 f s Q q => ⟨1, rfl, q _ H1 (Same.refl _) (.int _)⟩
  refine go_setS (P := fun H v => Rp H v (.list (ks.map roD))) fr1 (eqD (e_lcL (enc := fun a : Ro => PyData.str (rowW a)) (as := ks) (b := fun _ => true) (ev := roD) (eqD (e_slL (e_split (e_var rfl (.str (txr ks))) e_str (by decide +kernel) (by have := txr_len g l12; omega)) o_none (o_some neg)) ?_) (by omega) fun a ha x F2 sF r => g_name ⟨rfl, b_yes, fun _ => e_call (a_cons (e_var rfl r) a_nil) ⟨a, rfl, g a ha, rfl⟩⟩) (by rw [filter_yes])) fun v2 H2 s2 fr2 r2 => ?_
  · rw [split_txr g, List.map_append, List.map_cons, List.map_nil, cut_last, List.map_map]
    rfl
  have hR : RRowsL [.list (ks.map roD)] (.bool true) := ⟨ks.map roD, true, rfl, by rw [List.length_map]; omega, rfl, ⟨fun _ => hA, fun _ => rfl⟩⟩
  have hX : RTxrL [.list (ks.map roD)] (.str (txr ks)) := ⟨ks, rfl, by omega, g, rfl⟩
  refine go_ifS fr2 (b_or (b_not (b_val (e_call (a_cons (e_var rfl r2) a_nil) hR))) fun _ => b_test (e_neS (e_call (a_cons (eqD (e_sortD (e_var rfl r2) (ros_alike ks) (ros_sortable ks) (fun d hd => ?_) (by rw [List.length_map]; omega)) (by rw [hs])) a_nil) hX) (e_var rfl (.str (txr ks))))) (fun z => ?_) fun _ H3 s3 fr3 => ?_
  · obtain ⟨a, _, rfl⟩ := List.mem_map.mp hd
    exact ro_depth a
  · exfalso
    simp at z
  · exact go_ret (P := TV C ks) fr3 (e_clsStar (N := N) rfl (e_var rfl (r2.mono (offS_mono (S := S) s3))) hA hs) fun v H4 s4 p4 => q v H4 (s1.trans (s2.trans (s3.trans s4))) p4
end
end Q

set_option maxHeartbeats 400000
namespace Q
open PySem PySem.Spec PyProof.Rows L2 Ca
/-! ### table_within_limits, with its exception -/
/-- what the top has written of an exception's class (at N) -/
structure XT (K : PySem.W.Frag) (mg : PySem.Str → Option Value) (x : PySem.Str) (N : Addr) : Prop where
  gN : mg x = some (.ref N)
  xN : PySem.W.excIn K N [.type "ValueError", .type "Exception", .type "BaseException", .type "object"] "ValueError.__new__" = true
  kN : PySem.W.keepIn K (.ref N) = true
  bN : PySem.W.subIn K (.ref N) (.type "BaseException") = some true
  tN : PySem.W.typeIn K (.ref N) = some (.type "type")
def spTwlX (C N : Addr) : Sp := fun vs H Q E => ∃ (S : Addr → Bool) (v : V) (ds : List PyData) (b : Bool), vs = [v] ∧ Fr S H ∧ Rp (offS S H) v (.list ds) ∧ ds.length ≤ 1000 ∧ (b = true ↔ AreR ds) ∧ (b = false → ∀ H', Same H H' → E (.ref N) none H') ∧
  ∀ rs ks : List Ro, b = true → ds = rs.map roD → srtD ds = ks.map roD → ks.Perm rs → ∀ v H', Same H H' → TV C ks (offS S H') v → Q v H'
section
variable {P : Program} {w : World} {K : PySem.W.Frag} {mg : PySem.Str → Option Value} {base : Heap}
theorem ok_twlX {f C N NX fI : Addr} {fd : FuncData} (F : FnP K "table_within_limits" s_twl f fd) (M : Mk K C fI) (GI : FnR P w K mg base (L2.CX P w) 6 fI (spTInitR C N)) (gC : mg "Table" = some (.ref C)) (XT1 : XT K mg "TooMuch" NX) (D1 : Fd P w K mg base "are_rows" 5 ["things"] (spR RRowsL)) :
    FnOk P w K mg base (L2.CX P w) 8 f fd ["rows"] (spTwlX C NX) := by
  obtain ⟨f1, fd1, G1, b1, k1, m1⟩ := D1.ex
  refine F.ok sc_twl (fun vs H Q E h => ?_) (fun cdv A outer s H vs Q E hr h => ?_)
  · obtain ⟨S, v, ds, b, rfl, _⟩ := h
    rfl
  obtain ⟨S, v0, ds, b, rfl, fr, r0, hz, hb, kE, kQ⟩ := h
  refine ⟨_, pss_cons (ps_if (pt_not (pt_val (pe_call G1 (hr.mono (by decide)) rfl m1 k1 b1 .nil pass0 (pa_cons (pv 0) pa_nil))))
    (pss_one (ps_raise rfl (takes_of rfl rfl rfl rfl) (pmk_own PySem.F.excBase_ValueError XT1.xN XT1.gN XT1.kN (raises_own XT1.bN XT1.tN) rfl))) pss_nil) (pss_one (ps_ret (pe_glbStar M GI (hr.mono (by decide)) rfl gC passL (pv 0)))), ?_⟩
  refine go_ifS (b := !b) fr (b_not (b_val (e_call (a_cons (e_var rfl r0) a_nil) ⟨ds, b, rfl, hz, rfl, hb⟩))) (fun z H1 s1 f1 => kE (by simpa using z) H1 s1) fun z H1 s1 fr1 => ?_
  have bt : b = true := by simpa using z
  have hA := hb.mp bt
  obtain ⟨l12, rs, rfl, g, nd⟩ := hb.mp bt
  obtain ⟨ks, es, pks⟩ := srt_rows rs
  exact go_ret (P := TV C ks) fr1 (e_tabStar (N := N) (e_var rfl (r0.mono (offS_mono (S := S) s1))) hA es) fun v H2 s2 p2 => kQ rs ks bt rfl es pks v H2 (s1.trans s2) p2
end
end Q

set_option maxHeartbeats 400000
namespace Ca
open PySem PySem.Spec PyProof.Rows L2
/-- data that are short when shown -/
structure Fit (d : PyData) (k n : Nat) : Prop where
  sh : d.showable = true
  dp : d.depth ≤ k
  ln : d.shown.length ≤ n
theorem Fit.mono {d : PyData} {k n k' n' : Nat} (h : Fit d k n) (hk : k ≤ k') (hn : n ≤ n') : Fit d k' n' := ⟨h.sh, Nat.le_trans h.dp hk, Nat.le_trans h.ln hn⟩
theorem fit_none : Fit .none 0 10 := ⟨by simp [PyData.showable], by simp [PyData.depth], by simp only [PyData.shown]; decide +kernel⟩
theorem fit_bool (b : Bool) : Fit (.bool b) 0 10 := ⟨by simp [PyData.showable], by simp [PyData.depth], by simp only [PyData.shown]; cases b <;> decide +kernel⟩
theorem fit_int {i : Int} (h : i.natAbs < 10 ^ 14) : Fit (.int i) 0 20 := by
  refine ⟨?_, by simp [PyData.depth], ?_⟩
  · have h1 : i.natAbs.log2 < 1920 := by
      by_cases z : i.natAbs = 0
      · rw [z]
        decide
      · rw [Nat.log2_lt z]
        exact Nat.lt_of_lt_of_le h (by decide +kernel)
    simpa [PyData.showable] using h1
  · have h2 := int_text_length_le10 (a := i) (k := 14) (by decide) h
    simp only [PyData.shown]
    show (PySem.Str.ofString (toString i)).length ≤ 20
    rw [PySem.ofString_length]
    omega
theorem fit_str {x : PySem.Str} {m : Nat} (hx : ∀ c ∈ x.cps.toList, c < 16 ^ 8) (hl : x.length ≤ m) : Fit (.str x) 0 (10 * m + 2) := by
  refine ⟨by simp [PyData.showable], by simp [PyData.depth], ?_⟩
  have := StrLaws.reprText_len x hx
  simp only [PyData.shown]
  omega
theorem all_sh : ∀ {ds : List PyData} {k n : Nat}, (∀ d ∈ ds, Fit d k n) → PyData.showableAll ds = true ∧ PyData.depthAll ds ≤ k ∧ ((PyData.shownAll ds).map (·.length)).sum ≤ ds.length * n
  | [], _, _, _ => by simp [PyData.showableAll, PyData.depthAll, PyData.shownAll]
  | d :: ds, k, n, h => by
    obtain ⟨h1, h2, h3⟩ := all_sh (ds := ds) fun e he => h e (.tail _ he)
    have f := h d (.head _)
    refine ⟨by simp [PyData.showableAll, f.sh, h1], ?_, ?_⟩
    · simp only [PyData.depthAll]
      have := f.dp
      omega
    · simp only [PyData.shownAll, List.map_cons, List.sum_cons, List.length_cons]
      have := f.ln
      rw [Nat.add_mul]
      omega
theorem shownAll_len (ds : List PyData) : (PyData.shownAll ds).length = ds.length := by
  rw [shownAll_eq_map, List.length_map]
theorem fit_list {ds : List PyData} {k n m : Nat} (h : ∀ d ∈ ds, Fit d k n) (hl : ds.length ≤ m) : Fit (.list ds) (k + 1) (m * (n + 2) + 3) := by
  obtain ⟨h1, h2, h3⟩ := all_sh h
  refine ⟨by simpa [PyData.showable] using h1, by simp only [PyData.depth]; omega, ?_⟩
  simp only [PyData.shown]
  have h4 := listText_len_le (PyData.shownAll ds)
  rw [shownAll_len] at h4
  have h5 : ds.length * (n + 2) ≤ m * (n + 2) := Nat.mul_le_mul_right _ hl
  rw [Nat.mul_add] at h5
  omega
theorem fit_tuple {ds : List PyData} {k n m : Nat} (h : ∀ d ∈ ds, Fit d k n) (hl : ds.length ≤ m) : Fit (.tuple ds) (k + 1) (m * (n + 2) + 3) := by
  obtain ⟨h1, h2, h3⟩ := all_sh h
  refine ⟨by simpa [PyData.showable] using h1, by simp only [PyData.depth]; omega, ?_⟩
  simp only [PyData.shown]
  have h4 := tupleText_len_le (PyData.shownAll ds)
  rw [shownAll_len] at h4
  have h5 : ds.length * (n + 2) ≤ m * (n + 2) := Nat.mul_le_mul_right _ hl
  rw [Nat.mul_add] at h5
  omega
theorem fit_dict0 : Fit (.dict []) 1 10 := ⟨by simp [PyData.showable, PyData.showableKv], by simp [PyData.depth, PyData.depthKv], by simp only [PyData.shown, PyData.shownKv]; decide +kernel⟩
end Ca
namespace Q
open PySem PySem.Spec PyProof.Rows L2 Ca
def Ascii (x : PySem.Str) : Prop := ∀ c ∈ x.cps.toList, c < 16 ^ 8
theorem kind_is {k : PySem.Str} (h : kindOk k = true) : k = "A" ∨ k = "B" ∨ k = "C" := by
  unfold kindOk inV at h
  rw [List.any_eq_true] at h
  obtain ⟨y, hy, e⟩ := h
  rcases List.mem_cons.mp hy with z | hy
  · subst z
    exact .inl (by simpa [eqV] using (Eq.symm (by simpa [eqV] using e)))
  · rcases List.mem_cons.mp hy with z | hy
    · subst z
      exact .inr (.inl (by simpa [eqV] using (Eq.symm (by simpa [eqV] using e))))
    · rcases List.mem_cons.mp hy with z | hy
      · subst z
        exact .inr (.inr (by simpa [eqV] using (Eq.symm (by simpa [eqV] using e))))
      · cases hy
theorem ascii_ofs {x : PySem.Str} (h : x.cps.toList.all (fun c => decide (c < 16 ^ 8)) = true) : Ascii x := fun c hc => of_decide_eq_true (List.all_eq_true.mp h c hc)
theorem ascii_kind {k : PySem.Str} (h : kindOk k = true) : Ascii k := by
  rcases kind_is h with z | z | z <;> subst z <;> exact ascii_ofs (by decide +kernel)
theorem ascii_dig {i : Int} (h0 : 0 ≤ i) (h9 : i ≤ 9) : Ascii (PySem.Str.ofString (toString i)) := by
  obtain ⟨n, rfl⟩ := Int.eq_ofNat_of_zero_le h0
  have h : ∀ n : Nat, n < 10 → (PySem.Str.ofString (toString ((n : Nat) : Int))).cps.toList.all (fun c => decide (c < 16 ^ 8)) = true := by decide +kernel
  exact ascii_ofs (h n (by omega))
theorem ascii_app {x y : PySem.Str} (hx : Ascii x) (hy : Ascii y) : Ascii (x ++ y) := fun c hc => by
  have e : (x ++ y).cps.toList = x.cps.toList ++ y.cps.toList := TL.tl_append x y
  rw [e] at hc
  rcases List.mem_append.mp hc with z | z
  · exact hx c z
  · exact hy c z
theorem ascii_join {s : PySem.Str} (hs : Ascii s) : ∀ {l : List PySem.Str}, (∀ x ∈ l, Ascii x) → Ascii (PySem.Str.join s l)
  | [], _ => fun c hc => by
    have e : (PySem.Str.join s []).cps.toList = [] := TL.tl_join s []
    rw [e] at hc
    cases hc
  | [x], h => fun c hc => by
    have e : (PySem.Str.join s [x]).cps.toList = x.cps.toList := TL.tl_join s [x]
    rw [e] at hc
    exact h x (.head _) c hc
  | x :: y :: r, h => by
    have e : PySem.Str.join s (x :: y :: r) = x ++ s ++ PySem.Str.join s (y :: r) := rfl
    rw [e]
    exact ascii_app (ascii_app (h x (.head _)) hs) (ascii_join hs fun z hz => h z (.tail _ hz))
end Q

set_option maxHeartbeats 400000
namespace Q
open PySem PySem.Spec PyProof.Rows L2 Ca
/-! ### the source of what is drawn -/
def Src (H : Hp) (s : Addr) : Prop := ∃ a b c : Int, H s = some (.lst [.int a, .int b, .int c])
/-- the source may have changed, nothing else -/
structure Stp (H H' : Hp) (s : Addr) : Prop where
  src : Src H' s
  same : ∀ b, b ≠ s → H' b = H b
theorem Stp.refl {H : Hp} {s : Addr} (h : Src H s) : Stp H H s := ⟨h, fun _ _ => rfl⟩
theorem Stp.trans {H H1 H2 : Hp} {s : Addr} (a : Stp H H1 s) (b : Stp H1 H2 s) : Stp H H2 s := ⟨b.src, fun x hx => (b.same x hx).trans (a.same x hx)⟩
theorem Stp.tup {H H' : Hp} {s t : Addr} {xs : List V} (h : Stp H H' s) (hs : Src H s) (ht : H t = some (.tup xs)) : H' t = some (.tup xs) := by
  obtain ⟨a, b, c, hs⟩ := hs
  rw [h.same t (ne_of ht hs (by intro z; cases z))]
  exact ht
theorem stp_upd {H : Hp} {s : Addr} {a b c : Int} : Stp H (upd H s (.lst [.int a, .int b, .int c])) s := ⟨⟨a, b, c, upd_same⟩, fun _ h => upd_ne h⟩
abbrev s_draw : Stmt := top 58
theorem sc_draw : FnScope ["_law_source_here", "_law_many", "_law_found", "_law_mixed"] ["_law_source_here", "_law_many"] (defScope s_draw) := ⟨rfl, rfl, rfl, by decide +kernel, rfl, by decide +kernel, by decide +kernel⟩
def spDraw : Sp := fun vs H Q _ => ∃ (s : Addr) (m : Int), vs = [.ref s, .int m] ∧ Src H s ∧ 0 < m ∧ m < 2 ^ 62 ∧ ∀ (z : Int) (H' : Hp), 0 ≤ z → z < m → Stp H H' s → Q (.int z) H'
theorem mod_bd (x : Int) {m : Int} (h0 : 0 < m) (h1 : m < 2 ^ 62) : -(2 ^ 64) < x % m ∧ x % m < 2 ^ 64 := by
  have a := Int.emod_nonneg x (show m ≠ 0 by omega)
  have b := Int.emod_lt_of_pos x h0
  omega
theorem cdw {i m : Int} (h0 : 0 < m) (h1 : m < 2 ^ 62) : CDivW i m := wide_div (b := 62) h0 (by omega) (by decide) (by decide)
section
variable {P : Program} {w : World} {K : PySem.W.Frag} {mg : PySem.Str → Option Value} {base : Heap}
theorem ok_draw {f : Addr} {fd : FuncData} (F : FnP K "_law_draw" s_draw f fd) : FnOk P w K mg base CX0 1 f fd ["_law_source_here", "_law_many"] spDraw := by
  refine F.ok sc_draw (fun vs H Q E h => ?_) (fun cdv A outer s H vs Q E hr h => ?_)
  · obtain ⟨s, m, rfl, _⟩ := h
    rfl
  · obtain ⟨s, m, rfl, ⟨a, b, c, hs⟩, m0, m1, q⟩ := h
    refine ⟨_, PSs.nox (pss_cons (ps_if (pt_cmpR op_gt (pe_ix ix_list (pv 0) pe_int (fun _ _ => rfl)) pe_int (nomark _))
        (pss_cons (ps_set (i := 2) sc_draw.nd rfl (.inl rfl) (pe_op op_mod (pe_ix ix_list (pv 0) pe_int (fun _ _ => rfl)) (pv 1)))
        (pss_cons (ps_asg (pe_op op_fdivW (pe_ix ix_list (pv 0) pe_int (fun _ _ => rfl)) (pv 1)) (pg_sub (pv 0) pe_int set_list))
        (pss_one (ps_ret (pv 2))))) pss_nil)
      (pss_cons (ps_asg (pe_op op_add (pe_ix ix_list (pv 0) pe_int (fun _ _ => rfl)) pe_int) (pg_sub (pv 0) pe_int set_list))
      (pss_cons (ps_asg (pe_op op_mod (pe_op op_add (pe_op op_add (pe_op op_mul (pe_ix ix_list (pv 0) pe_int (fun _ _ => rfl)) pe_int) (pe_op op_mul pe_int (pe_ix ix_list (pv 0) pe_int (fun _ _ => rfl)))) pe_int) pe_int) (pg_sub (pv 0) pe_int set_list))
      (pss_cons (ps_set (i := 3) sc_draw.nd rfl (.inl rfl) (pe_op op_mod (pe_op op_add (pe_op op_add (pe_op op_mul (pe_ix ix_list (pv 0) pe_int (fun _ _ => rfl)) (pe_ix ix_list (pv 0) pe_int (fun _ _ => rfl))) (pe_op op_mul pe_int (pe_ix ix_list (pv 0) pe_int (fun _ _ => rfl)))) pe_int) pe_int))
      (pss_cons (ps_set (i := 3) sc_draw.nd rfl (.inl rfl) (pe_op op_mod (pe_op op_add (pe_op op_mul (pv 3) (pv 3)) (pe_op op_mul pe_int (pv 3))) pe_int))
      (pss_one (ps_ret (pe_op op_mod (pe_op op_fdiv (pv 3) pe_int) (pv 1))))))))), ?_⟩
    refine ⟨_, rfl, s, _, 0, _, rfl, rfl, .inl (.inl hs), rfl, a, 0, rfl, rfl, _, rfl, ?_⟩
    by_cases c0 : (0 : Int) < a
    · rw [decide_eq_true c0]
      refine iteT ⟨_, rfl, s, _, 0, _, rfl, rfl, .inl (.inl hs), rfl, _, rfl, a, m, rfl, rfl, m0, ?_⟩
      refine ⟨_, rfl, s, _, 0, _, rfl, rfl, .inl (.inl hs), rfl, _, rfl, a, m, rfl, rfl, cdw m0 m1, ?_⟩
      refine ⟨_, rfl, s, _, 0, 0, rfl, rfl, hs, rfl, ?_⟩
      refine ⟨_, rfl, q _ _ (Int.emod_nonneg _ (by omega)) (Int.emod_lt_of_pos _ m0) ?_⟩
      exact stp_upd
    · rw [decide_eq_false c0]
      refine iteF ⟨_, rfl, s, _, 2, _, rfl, rfl, .inl (.inl hs), rfl, c, 1, rfl, rfl, ?_⟩
      refine ⟨_, rfl, s, _, 2, 2, rfl, rfl, hs, rfl, ?_⟩
      refine ⟨_, rfl, s, _, 1, _, rfl, rfl, .inl (.inl upd_same), rfl, b, 48271, rfl, rfl, .inr ⟨by decide, by decide⟩, ?_⟩
      refine ⟨_, rfl, s, _, 2, _, rfl, rfl, .inl (.inl upd_same), rfl, 1009, _, rfl, rfl, .inl ⟨by decide, by decide⟩, _, _, rfl, rfl, _, 7, rfl, rfl, _, 2147483647, rfl, rfl, show (0 : Int) < 2147483647 by decide, ?_⟩
      refine ⟨_, rfl, s, _, 1, 1, rfl, rfl, upd_same, rfl, ?_⟩
      refine ⟨_, rfl, s, _, 1, _, rfl, rfl, .inl (.inl upd_same), rfl, _, rfl, s, _, 1, _, rfl, rfl, .inl (.inl upd_same), rfl, _, _, rfl, rfl, .inl (mod_bd _ (by decide) (by decide)), ?_⟩
      refine ⟨_, rfl, s, _, 1, _, rfl, rfl, .inl (.inl upd_same), rfl, 69621, _, rfl, rfl, .inl ⟨by decide, by decide⟩, _, _, rfl, rfl, _, 11, rfl, rfl, _, 2147483629, rfl, rfl, show (0 : Int) < 2147483629 by decide, ?_⟩
      refine ⟨_, rfl, _, rfl, _, _, rfl, rfl, .inl (mod_bd _ (by decide) (by decide)), ?_⟩
      refine ⟨_, rfl, 40014, _, rfl, rfl, .inl ⟨by decide, by decide⟩, _, _, rfl, rfl, _, 2147483587, rfl, rfl, show (0 : Int) < 2147483587 by decide, ?_⟩
      refine ⟨_, rfl, _, 16, rfl, rfl, ⟨by decide, by decide⟩, _, rfl, _, m, rfl, rfl, m0, ?_⟩
      exact q _ _ (Int.emod_nonneg _ (by omega)) (Int.emod_lt_of_pos _ m0) (Stp.trans (H1 := upd H s (.lst [.int a, .int b, .int (c + 1)])) stp_upd stp_upd)
end
abbrev s_cell : Stmt := top 56
abbrev s_source : Stmt := top 57
abbrev s_choose : Stmt := top 59
theorem sc_cell : FnScope ["_law_script", "_law_index"] ["_law_script", "_law_index"] (defScope s_cell) := ⟨rfl, rfl, rfl, by decide +kernel, rfl, by decide +kernel, by decide +kernel⟩
theorem sc_source : FnScope ["_law_cell_here"] ["_law_cell_here"] (defScope s_source) := ⟨rfl, rfl, rfl, by decide +kernel, rfl, by decide +kernel, by decide +kernel⟩
theorem sc_choose : FnScope ["_law_source_here", "_law_values"] ["_law_source_here", "_law_values"] (defScope s_choose) := ⟨rfl, rfl, rfl, by decide +kernel, rfl, by decide +kernel, by decide +kernel⟩
def spCell (K : PySem.W.Frag) : Sp := fun vs H Q _ => ∃ (a : Addr) (ns : List Int) (z0 : Int), vs = [.ref a, .int z0] ∧ 0 ≤ z0 ∧ SqL K H a (ns.map V.int) ∧ ∀ z : Int, Q (.int z) H
def spSource : Sp := fun vs H Q _ => ∃ c : Int, vs = [.int c] ∧ ∀ (p : Addr) (x y z : Int), H p = none → Q (.ref p) (upd H p (.lst [.int x, .int y, .int z]))
def spChoose : Sp := fun vs H Q _ => ∃ (s l : Addr) (xs : List V), vs = [.ref s, .ref l] ∧ Src H s ∧ l ≠ s ∧ H l = some (.lst xs) ∧ 0 < xs.length ∧ xs.length ≤ 1000 ∧
  ∀ (i : Nat) (x : V) (H' : Hp), xs[i]? = some x → Stp H H' s → Q x H'
section
variable {P : Program} {w : World} {K : PySem.W.Frag} {mg : PySem.Str → Option Value} {base : Heap}
theorem ok_cell {f : Addr} {fd : FuncData} (F : FnP K "_law_cell" s_cell f fd) (T : Tx K mg) : FnOk P w K mg base CX0 1 f fd ["_law_script", "_law_index"] (spCell K) := by
  refine F.ok sc_cell (fun vs H Q E h => ?_) (fun cdv A outer s H vs Q E hr h => ?_)
  · obtain ⟨a, ns, i, rfl, _⟩ := h
    rfl
  · obtain ⟨a, ns, z0, rfl, hz, hs, q⟩ := h
    obtain ⟨i, rfl⟩ := Int.eq_ofNat_of_zero_le hz
    refine ⟨_, PSs.nox (pss_cons (ps_if (pt_cmpR op_lt (pv 1) (pe_callB call_len_seq (by rfl) T.len bLen (pa_cons (pv 0) pa_nil)) (nomark _)) (pss_one (ps_ret (pe_ix ix_list (pv 0) (pv 1) (fun _ _ => rfl)))) pss_nil)
      (pss_one (ps_ret pe_int))), ?_⟩
    refine ⟨_, rfl, _, rfl, a, _, rfl, .inl hs, _, _, rfl, rfl, _, rfl, ?_⟩
    by_cases c : (i : Int) < (((ns.map V.int).length : Nat) : Int)
    · rw [decide_eq_true c]
      have hi : i < ns.length := by
        rw [List.length_map] at c
        omega
      refine iteT ⟨_, rfl, _, rfl, a, _, i, .int ns[i], rfl, rfl, hs, L2.at_of rfl ?_, q _⟩
      rw [List.getElem?_map, List.getElem?_eq_getElem hi]
      rfl
    · rw [decide_eq_false c]
      exact iteF (q _)
theorem ok_source {f : Addr} {fd : FuncData} (F : FnP K "_law_source" s_source f fd) (T : Tx K mg) : FnOk P w K mg base CX0 1 f fd ["_law_cell_here"] spSource := by
  refine F.ok sc_source (fun vs H Q E h => ?_) (fun cdv A outer s H vs Q E hr h => ?_)
  · obtain ⟨c, rfl, _⟩ := h
    rfl
  · obtain ⟨c, rfl, q⟩ := h
    refine ⟨_, PSs.nox (pss_one (ps_ret (pe_lst (pa_cons (pe_callB (call_max2 rfl) (by rfl) T.max bMax (pa_cons pe_int (pa_cons (pe_op op_sub (pv 0) (pe_op op_pow pe_int pe_int)) pa_nil)))
      (pa_cons (pe_op op_add (pe_op op_mod (pv 0) pe_int) pe_int) (pa_cons pe_int pa_nil)))))), ?_⟩
    refine ⟨_, rfl, 10, 18, rfl, rfl, ⟨by decide, by decide, by decide⟩, _, _, rfl, rfl, _, _, rfl, ?_⟩
    refine ⟨_, rfl, _, 2147483629, rfl, rfl, show (0 : Int) < 2147483629 by decide, _, 1, rfl, rfl, by show 3 ≤ sizeLine; decide, fun p hp => q p _ _ _ hp⟩
theorem ok_choose {f fD : Addr} {fd fdD : FuncData} (F : FnP K "_law_choose" s_choose f fd) (T : Tx K mg) (GD : FnOk P w K mg base CX0 1 fD fdD ["_law_source_here", "_law_many"] spDraw)
    (bD : Binds K fdD ["_law_source_here", "_law_many"] []) (kD : PySem.W.keepIn K (.ref fD) = true) (gD : mg "_law_draw" = some (.ref fD)) : FnOk P w K mg base CX0 2 f fd ["_law_source_here", "_law_values"] spChoose := by
  refine F.ok sc_choose (fun vs H Q E h => ?_) (fun cdv A outer s H vs Q E hr h => ?_)
  · obtain ⟨s, l, xs, rfl, _⟩ := h
    rfl
  · obtain ⟨s, l, xs, rfl, hs, ne, hl, l0, l1, q⟩ := h
    refine ⟨_, PSs.nox (pss_one (ps_ret (pe_ix ix_list (pv 1) (pe_call GD hr rfl gD kD bD .nil pass0 (pa_cons (pv 0) (pa_cons (pe_callB call_len_seq (by rfl) T.len bLen (pa_cons (pv 1) pa_nil)) pa_nil))) (fun _ _ => rfl)))), ?_⟩
    refine ⟨_, rfl, _, rfl, _, rfl, l, xs, rfl, .inl (.inl (.inl hl)), s, _, rfl, hs, by omega, by omega, fun z H' z0 z1 st => ?_⟩
    obtain ⟨j, rfl⟩ := Int.eq_ofNat_of_zero_le z0
    have hj : j < xs.length := by omega
    refine ⟨l, xs, _, xs[j], rfl, rfl, .inl (.inl ?_), L2.at_of rfl (List.getElem?_eq_getElem hj), q j _ H' (List.getElem?_eq_getElem hj) st⟩
    rw [st.same l ne]
    exact hl
end
/-! ### _law_is_equal -/
abbrev s_eq : Stmt := top 60
theorem sc_eq : FnScope ["_law_actual", "_law_expected"] ["_law_actual", "_law_expected"] (defScope s_eq) := ⟨rfl, rfl, rfl, by decide +kernel, rfl, by decide +kernel, by decide +kernel⟩
def spEq : Sp := fun vs H Q _ => ∃ (v1 v2 : V) (d : PyData), vs = [v1, v2] ∧ Rp H v1 d ∧ Rp H v2 d ∧ Fit d 50 1000000 ∧ Q (.bl true) H
theorem big : 1000000 ≤ sizeLine := by decide
section
variable {P : Program} {w : World} {K : PySem.W.Frag} {mg : PySem.Str → Option Value} {base : Heap}
theorem ok_eq {f : Addr} {fd : FuncData} (F : FnP K "_law_is_equal" s_eq f fd) (T : Tx K mg) : FnG P w K mg base CX0 1 f spEq := by
  refine fng_of F sc_eq (FunD.bindsA (ps := ["_law_actual", "_law_expected"]) F fun _ _ _ _ _ _ us hl => match us, hl with | [_, _], _ => rfl) (fun vs H Q E h => ?_) (fun cdv A outer s H vs Q E hg hr h => ?_)
  · obtain ⟨v1, v2, d, rfl, _⟩ := h
    rfl
  · obtain ⟨v1, v2, d, rfl, r1, r2, ft, q⟩ := h
    refine ⟨_, PSs.nox (pss_one (ps_ret (pe_cmpR op_eq (pe_callB (call_repr T.sm hg hr) (by rfl) T.repr bRepr (pa_cons (pv 0) pa_nil)) (pe_callB (call_repr T.sm hg hr) (by rfl) T.repr bRepr (pa_cons (pv 1) pa_nil)) (nomark _)))), ?_⟩
    have dp : d.depth ≤ 60 := Nat.le_trans ft.dp (by decide)
    have ln : d.shown.length ≤ sizeLine := Nat.le_trans ft.ln big
    refine ⟨_, rfl, _, d, rfl, r1, ft.sh, dp, ln, _, rfl, _, d, rfl, r2, ft.sh, dp, ln, rfl, ?_⟩
    have e : decide (V.str d.shown = V.str d.shown) = true := decide_eq_true rfl
    show Q (V.bl (decide (V.str d.shown = V.str d.shown))) H
    rw [e]
    exact q
end
section
variable {K : PySem.W.Frag} {σ : L2.St} {F : Hp} {ta tb te t1 t2 : TE} {d : PyData} {ds : List PyData} {E : XK} {C : Addr} {P1 P2 : Hp → V → Prop}
theorem e_eq (h1 : EvD t1 σ F d) (h2 : EvD t2 σ F d) (ft : Fit d 50 1000000) : EvD (tCall spEq [] E (tCons t1 (tCons t2 tNil))) σ F (.bool true) := fun S H1 f s Q q =>
  h1 S H1 f s _ fun v1 H2 s2 r1 => h2 S H2 (f.mono s2) (s.trans (offS_mono s2)) _ fun v2 H3 s3 r2 => ⟨v1, v2, d, rfl, (r1.mono (offS_mono s3)).mono offS_same, r2.mono offS_same, ft, q _ H3 (s2.trans s3) (.bl _)⟩
end
end Q

set_option maxHeartbeats 400000
namespace Q
open PySem PySem.Spec PyProof.Rows L2 Ca
/-! ### what an expression gives that may draw from the source at s -/
/-- all but what stands at s is kept -/
def Kp (s : Addr) (H H' : Hp) : Prop := ∀ b o, b ≠ s → H b = some o → H' b = some o
theorem Kp.refl (s : Addr) (H : Hp) : Kp s H H := fun _ _ _ e => e
theorem Kp.trans {s : Addr} {H H1 H2 : Hp} (a : Kp s H H1) (b : Kp s H1 H2) : Kp s H H2 := fun x o hx e => b x o hx (a x o hx e)
theorem Kp.of {s : Addr} {H H' : Hp} (h : Same H H') : Kp s H H' := fun b o _ e => h b o e
theorem Stp.kp {s : Addr} {H H' : Hp} (h : Stp H H' s) : Kp s H H' := fun b o hb e => by rw [h.same b hb]; exact e
theorem src_same {H H' : Hp} {s : Addr} (hs : Src H s) (h : Same H H') : Src H' s := by
  obtain ⟨a, b, c, e⟩ := hs
  exact ⟨a, b, c, h _ _ e⟩
section
variable {s : Addr} {S : Addr → Bool} {H H' : Hp}
theorem Kp.fr (k : Kp s H H') (hs : Src H' s) (f : Fr S H) : Fr S H' := fun a ha => by
  by_cases z : a = s
  · subst z
    obtain ⟨x, y, c, e⟩ := hs
    exact ⟨_, e, trivial⟩
  · obtain ⟨o, e, m⟩ := f a ha
    exact ⟨o, k a o z e, m⟩
theorem Kp.off (k : Kp s H H') (hS : S s = true) : Same (offS S H) (offS S H') := fun b o e => by
  unfold offS at e ⊢
  split at e
  · cases e
  · rename_i hb
    rw [if_neg hb]
    exact k b o (fun z => hb (by rw [z]; exact hS)) e
end
def EvK (s : Addr) (te : TE) (σ : L2.St) (F : Hp) (P : Hp → V → Prop) : Prop := ∀ (S : Addr → Bool) (H1 : Hp), Fr S H1 → S s = true → Src H1 s → Same F (offS S H1) → ∀ Q : VK, (∀ v H2, Kp s H1 H2 → Src H2 s → P (offS S H2) v → Q v H2) → te σ H1 Q
/-- what is so stays so -/
def Mon (P : Hp → V → Prop) : Prop := ∀ F F' v, Same F F' → P F v → P F' v
inductive PsA (H : Hp) : List (Hp → V → Prop) → List V → Prop where
  | nil : PsA H [] []
  | cons {P : Hp → V → Prop} {Ps : List (Hp → V → Prop)} {v : V} {vs : List V} (h : P H v) (r : PsA H Ps vs) : PsA H (P :: Ps) (v :: vs)
theorem PsA.mono {H H' : Hp} {Ps : List (Hp → V → Prop)} {vs : List V} (r : PsA H Ps vs) (m : ∀ P ∈ Ps, Mon P) (s : Same H H') : PsA H' Ps vs := by
  induction r with
  | nil => exact .nil
  | cons h r ih => exact .cons (m _ (.head _) _ _ _ s h) (ih fun P hP => m P (.tail _ hP))
theorem PsA.length {H : Hp} {Ps : List (Hp → V → Prop)} {vs : List V} (r : PsA H Ps vs) : vs.length = Ps.length := by
  induction r with
  | nil => rfl
  | cons h r ih => rw [List.length_cons, List.length_cons, ih]
def EvKA (s : Addr) (ta : TA) (σ : L2.St) (F : Hp) (Ps : List (Hp → V → Prop)) : Prop := ∀ (S : Addr → Bool) (H1 : Hp), Fr S H1 → S s = true → Src H1 s → Same F (offS S H1) → ∀ Q : List V → Hp → Prop, (∀ vs H2, Kp s H1 H2 → Src H2 s → PsA (offS S H2) Ps vs → Q vs H2) → ta σ H1 Q
def IntP (lo hi : Int) : Hp → V → Prop := fun _ v => ∃ z, v = .int z ∧ lo ≤ z ∧ z ≤ hi
def RpP (D : PyData → Prop) : Hp → V → Prop := fun H v => ∃ d, D d ∧ Rp H v d
def LsP (n : Nat) (P : Hp → V → Prop) : Hp → V → Prop := fun H v => ∃ a xs, v = .ref a ∧ H a = some (.lst xs) ∧ xs.length = n ∧ ∀ x ∈ xs, P H x
def TpP (Ps : List (Hp → V → Prop)) : Hp → V → Prop := fun H v => ∃ a xs, v = .ref a ∧ H a = some (.tup xs) ∧ PsA H Ps xs
theorem mon_int {lo hi : Int} : Mon (IntP lo hi) := fun _ _ _ _ h => h
theorem mon_rp {D : PyData → Prop} : Mon (RpP D) := fun _ _ _ s ⟨d, h, r⟩ => ⟨d, h, r.mono s⟩
theorem mon_d {d : PyData} : Mon (fun H v => Rp H v d) := fun _ _ _ s r => r.mono s
theorem mon_ls {n : Nat} {P : Hp → V → Prop} (m : Mon P) : Mon (LsP n P) := fun _ _ _ s ⟨a, xs, e, h, l, r⟩ => ⟨a, xs, e, s _ _ h, l, fun x hx => m _ _ _ s (r x hx)⟩
section
variable {K : PySem.W.Frag} {s : Addr} {σ : L2.St} {F : Hp} {ta tb te tm tl : TE} {tas : TA} {P P1 P2 : Hp → V → Prop} {Ps : List (Hp → V → Prop)} {E : XK}
theorem k_of (h : EvP te σ F P) : EvK s te σ F P := fun S H1 f hS hs sm Q q => h S H1 f sm Q fun v H2 s2 p => q v H2 (.of s2) (src_same hs s2) p
theorem EvK.weak (h : EvK s te σ F P) (w : ∀ H v, P H v → P2 H v) : EvK s te σ F P2 := fun S H1 f hS hs sm Q q => h S H1 f hS hs sm Q fun v H2 k2 s2 p => q v H2 k2 s2 (w _ _ p)
theorem ka_nil : EvKA s tNil σ F [] := fun S H1 f hS hs sm Q q => q _ H1 (.refl _ _) hs .nil
theorem ka_cons (h : EvK s te σ F P) (m : Mon P) (hs : EvKA s tas σ F Ps) : EvKA s (tCons te tas) σ F (P :: Ps) := fun S H1 f hS hc sm Q q =>
  h S H1 f hS hc sm _ fun v H2 k2 c2 p => hs S H2 (k2.fr c2 f) hS c2 (sm.trans (k2.off hS)) _ fun vs H3 k3 c3 r => q _ H3 (k2.trans k3) c3 (.cons (m _ _ _ (k3.off hS) p) r)
theorem k_tup (h : EvKA s tas σ F Ps) (m : ∀ P ∈ Ps, Mon P) (hl : Ps.length ≤ 1000) : EvK s (tTup tas) σ F (TpP Ps) := fun S H1 f hS hc sm Q q =>
  h S H1 f hS hc sm _ fun vs H2 k2 c2 r => ⟨by rw [r.length]; exact Nat.le_of_lt (small1000 hl), fun p hp => q _ _ (k2.trans (.of (same_new hp))) (src_same c2 (same_new hp)) ⟨p, vs, rfl, offS_new (k2.fr c2 f) hp, r.mono m (offS_mono (same_new hp))⟩⟩
theorem psa_all {H : Hp} {vs : List V} (r : PsA H Ps vs) (w : ∀ P ∈ Ps, ∀ v, P H v → P2 H v) : ∀ v ∈ vs, P2 H v := by
  induction r with
  | nil => exact fun v h => by cases h
  | cons h r ih =>
    intro v hv
    rcases List.mem_cons.mp hv with z | z
    · rw [z]
      exact w _ (.head _) _ h
    · exact ih (fun P hP => w P (.tail _ hP)) v z
theorem k_lst (h : EvKA s tas σ F Ps) (m : Mon P) (w : ∀ P' ∈ Ps, ∀ H v, P' H v → P H v) (hl : Ps.length ≤ 1000) : EvK s (tLst tas) σ F (LsP Ps.length P) := fun S H1 f hS hc sm Q q =>
  h S H1 f hS hc sm _ fun vs H2 k2 c2 r => ⟨by rw [r.length]; exact Nat.le_of_lt (small1000 hl), fun p hp => q _ _ (k2.trans (.of (same_new hp))) (src_same c2 (same_new hp)) ⟨p, vs, rfl, offS_new (k2.fr c2 f) hp, r.length, fun x hx =>
    m _ _ _ (offS_mono (same_new hp)) (psa_all (P2 := P) r (fun P' hP v => w P' hP _ v) x hx)⟩⟩
theorem k_draw {i : Nat} {m : Int} (hi : σ[i]? = some (some (.ref s))) (hm : EvP tm σ F (fun H v => Rp H v (.int m))) (m0 : 0 < m) (m1 : m < 2 ^ 62) : EvK s (tCall spDraw [] E (tCons (tVar i) (tCons tm tNil))) σ F (IntP 0 (m - 1)) := fun S H1 f hS hc sm Q q =>
  ⟨_, hi, hm S H1 f sm _ fun v H2 s2 r => by
    cases r
    exact ⟨s, m, rfl, src_same hc s2, m0, m1, fun z H3 z0 z1 st => q _ H3 ((Kp.of s2).trans st.kp) st.src ⟨z, rfl, z0, by omega⟩⟩⟩
theorem k_choose {i n : Nat} (hi : σ[i]? = some (some (.ref s))) (hl : EvK s tl σ F (LsP n P)) (mo : Mon P) (n0 : 0 < n) (n1 : n ≤ 1000) : EvK s (tCall spChoose [] E (tCons (tVar i) (tCons tl tNil))) σ F P := fun S H1 f hS hc sm Q q =>
  ⟨_, hi, hl S H1 f hS hc sm _ fun v H2 k2 c2 ⟨a, xs, e, ha, hn, hx⟩ => by
    subst e
    have na : a ≠ s := fun z => by
      rw [z] at ha
      unfold offS at ha
      rw [if_pos hS] at ha
      cases ha
    exact ⟨s, a, xs, rfl, c2, na, offS_same _ _ ha, by omega, by omega, fun j x H3 hj st => q _ H3 (k2.trans st.kp) st.src (mo _ _ _ (st.kp.off hS) (hx x (List.mem_of_getElem? hj)))⟩⟩
theorem k_add {a b c d : Int} (ha : EvK s ta σ F (IntP a b)) (hb : EvK s tb σ F (IntP c d)) : EvK s (tOp (rI0 fun i j => .int (i + j)) ta tb) σ F (IntP (a + c) (b + d)) := fun S H1 f hS hc sm Q q =>
  ha S H1 f hS hc sm _ fun v H2 k2 c2 ⟨x, e1, x0, x1⟩ => hb S H2 (k2.fr c2 f) hS c2 (sm.trans (k2.off hS)) _ fun u H3 k3 c3 ⟨y, e2, y0, y1⟩ => by
    subst e1 e2
    exact ⟨x, y, rfl, rfl, q _ H3 (k2.trans k3) c3 ⟨x + y, rfl, by omega, by omega⟩⟩
theorem k_int {i lo hi : Int} (h0 : lo ≤ i) (h1 : i ≤ hi) : EvK s (tC (.int i)) σ F (IntP lo hi) := k_of fun S H1 f sm Q q => q _ H1 (Same.refl _) ⟨i, rfl, h0, h1⟩
theorem k_varI {i : Nat} {z lo hi : Int} (h : σ[i]? = some (some (.int z))) (h0 : lo ≤ z) (h1 : z ≤ hi) : EvK s (tVar i) σ F (IntP lo hi) := k_of (e_varP h fun _ _ => ⟨z, rfl, h0, h1⟩)
/-! statements -/
variable {S : Addr → Bool} {H : Hp} {D : L2.Ends} {t u : TS}
theorem go_setK {i : Nat} (f : Fr S H) (hS : S s = true) (hc : Src H s) (h : EvK s te σ (offS S H) P) (k : ∀ v H', Kp s H H' → Src H' s → Fr S H' → P (offS S H') v → u D (σ.set i (some v)) H') : tSeq (tAsg te (gName i)) u D σ H :=
  h S H f hS hc (Same.refl _) _ fun v H' k' c p => k v H' k' c (k'.fr c f) p
end
end Q

set_option maxHeartbeats 400000
namespace Ca
open PySem PySem.Spec PyProof.Rows L2
section
variable {K : PySem.W.Frag} {σ : L2.St} {S : Addr → Bool} {H : Hp} {D : L2.Ends} {te : TE} {u : TS} {i : Nat} {p : Addr} {xs : List V} {ds : List PyData} {d : PyData}
theorem go_app (f : Fr S H) (hv : σ[i]? = some (some (.ref p))) (hp : H p = some (.lst xs)) (h : EvD te σ (offS S H) d) (hz : xs.length ≤ 900)
    (k : ∀ y H', Same H H' → H' p = some (.lst xs) → Rp (offS S H') y d → D.nx σ (upd H' p (.lst (xs ++ [y])))) : tDrop (tBM K "list" rAppend (tVar i) (tCons te tNil)) D σ H :=
  ⟨_, hv, .inl ⟨rfl, _, .inl (.inl hp)⟩, h S H f (Same.refl _) _ fun v H' s r => 
    ⟨p, xs, v, rfl, rfl, s _ _ hp, small1000 (by omega), k v H' s (s _ _ hp) r⟩⟩
end
theorem cq_str {k : Nat} {x : PySem.Str} (h : PyData.strOk x = true) : Cq k (.str x) := ⟨by simp [nd], by simp [PyData.canLay0, h], by simp [PyData.depth]⟩
end Ca
namespace Q
open PySem PySem.Spec PyProof.Rows L2 Ca
/-- a row with values and a number up to these -/
structure RowIn (v o : Int) (a : Ro) : Prop where
  g : GoodR a
  l : a.l ≤ v
  r : a.r ≤ v
  n : a.n ≤ o
def KindP : Hp → V → Prop := fun _ v => ∃ k, v = .str k ∧ kindOk k = true
theorem mon_kind : Mon KindP := fun _ _ _ _ h => h
def KLst : Hp → V → Prop := fun H v => ∃ n, 0 < n ∧ n ≤ 3 ∧ LsP n KindP H v
theorem mon_kl : Mon KLst := fun F F' v s ⟨n, a, b, h⟩ => ⟨n, a, b, mon_ls mon_kind F F' v s h⟩
def keyD (k : PySem.Str) (l r : Int) : PyData := .tuple [.str k, .int l, .int r]
theorem key_eqv (a : Ro) (k : PySem.Str) (l r : Int) : PyData.eqv (keyD a.k a.l a.r) (keyD k l r) = true ↔ roK a = [.inr k, .inl l, .inl r] := by
  unfold keyD roK
  simp [PyData.eqv, PyData.eqvAll]
theorem kind_sok {k : PySem.Str} (h : kindOk k = true) : PyData.strOk k = true := by
  rcases kind_is h with z | z | z <;> subst z <;> decide +kernel
theorem cq_key {n : Nat} {k : PySem.Str} (l r : Int) (h : kindOk k = true) : Cq (n + 1) (keyD k l r) := cq_tup fun d hd => by
  rcases List.mem_cons.mp hd with z | hd
  · rw [z]
    exact cq_str (kind_sok h)
  · rcases List.mem_cons.mp hd with z | hd
    · rw [z]
      exact cq_int _
    · rcases List.mem_cons.mp hd with z | hd
      · rw [z]
        exact cq_int _
      · cases hd
theorem cq_ro {n : Nat} {a : Ro} (h : GoodR a) : Cq (n + 1) (roD a) := cq_tup fun d hd => by
  rcases List.mem_cons.mp hd with z | hd
  · rw [z]
    exact cq_str (kind_sok h.k)
  · rcases List.mem_cons.mp hd with z | hd
    · rw [z]
      exact cq_int _
    · rcases List.mem_cons.mp hd with z | hd
      · rw [z]
        exact cq_int _
      · rcases List.mem_cons.mp hd with z | hd
        · rw [z]
          exact cq_int _
        · cases hd
theorem cq_ros {n : Nat} {rs : List Ro} (h : ∀ a ∈ rs, GoodR a) : Cq (n + 2) (.list (rs.map roD)) := cq_lst fun d hd => by
  obtain ⟨a, ha, rfl⟩ := List.mem_map.mp hd
  exact cq_ro (h a ha)
theorem cq_nil {n : Nat} : Cq (n + 1) (.list []) := cq_lst fun d hd => by cases hd
theorem k_str {s : Addr} {σ : L2.St} {F : Hp} {x : PySem.Str} (h : kindOk x = true) : EvK s (tC (.str x)) σ F KindP := k_of fun S H1 f sm Q q => q _ H1 (Same.refl _) ⟨x, rfl, h⟩
theorem kl_of {s : Addr} {σ : L2.St} {F : Hp} {te : TE} {n : Nat} (h : EvK s te σ F (LsP n KindP)) (h0 : 0 < n) (h3 : n ≤ 3) : EvK s te σ F KLst := h.weak fun H v z => ⟨n, h0, h3, z⟩
/-- the rows so far -/
theorem addS_s {S : Addr → Bool} {s fo : Addr} (h : S s = true) : addS S fo s = true := by
  unfold addS
  rw [h]
  rfl
theorem rpa_none {H : Hp} : ∀ {xs : List V} {ds : List PyData}, RpA H xs ds → xs.length = ds.length := fun r => r.length
end Q

set_option maxHeartbeats 400000
namespace Ca
open PySem PySem.Spec PyProof.Rows L2
/-- str of a text or of an integer -/
def rStrE : List V → Hp → VK → Prop := fun xs H Q => (∃ i, xs = [.int i] ∧ i.natAbs.log2 < 1920 ∧ Q (.str (toString i)) H) ∨ ∃ a, xs = [.str a] ∧ Q (.str a) H
theorem call_strE {X : Cx} : CallR X (.type "str") rStrE := fun pins s σ H xs us Q I r h => by
  rcases h with h | h
  · exact call_str_int pins s σ H xs us Q I r h
  · exact SkE.call_str_str pins s σ H xs us Q I r h
/-- what str makes of it -/
def strP : PyData → PySem.Str
  | .str x => x
  | .int i => PySem.Str.ofString (toString i)
  | _ => ""
def Sable : PyData → Prop
  | .str _ => True
  | .int i => i.natAbs.log2 < 1920
  | _ => False
theorem e_strE {σ : L2.St} {F : Hp} {ta : TE} {d : PyData} (h : EvD ta σ F d) (hd : Sable d) : EvD (tCB rStrE (tCons ta tNil)) σ F (.str (strP d)) := e_cb (a_cons h a_nil) fun S H vs f r Q q => by
  obtain ⟨v, rfl, r1⟩ := rpa1 r
  cases r1 with
  | str x => exact .inr ⟨x, rfl, q _ H (Same.refl _) (.str _)⟩
  | int i => exact .inl ⟨i, rfl, hd, q _ H (Same.refl _) (.str _)⟩
  | _ => exact False.elim hd
def lcSc : Expr → Scope
  | .ListComp _ _ sc _ => sc
  | _ => ⟨.function, [], false, false, []⟩
def argE : Expr → Expr
  | .Call _ (e :: _) _ _ => e
  | e => e
def retE : Stmt → Expr
  | .Return (some e) _ => e
  | _ => .Constant .none 0 ⟨0, 0, 0, 0⟩
end Ca
namespace Q
open PySem PySem.Spec PyProof.Rows L2 Ca
/-! ### _law_text -/
theorem srt_perm {rs ks : List Ro} (h : srtD (rs.map roD) = ks.map roD) : ks.Perm rs := by
  obtain ⟨k2, e, p⟩ := srt_rows rs
  have : ks = k2 := roD_inj (h.symm.trans e)
  rw [this]
  exact p
theorem srt_good {rs ks : List Ro} (h : srtD (rs.map roD) = ks.map roD) (g : ∀ a ∈ rs, GoodR a) : ∀ a ∈ ks, GoodR a := fun a ha => g a ((srt_perm h).mem_iff.mp ha)
def rowPs (a : Ro) : List PyData := [.str a.k, .int a.l, .int a.r, .int a.n]
theorem row_sable {a : Ro} (g : GoodR a) : ∀ d ∈ rowPs a, Sable d := fun d hd => by
  rcases List.mem_cons.mp hd with z | hd
  · rw [z]
    trivial
  · rcases List.mem_cons.mp hd with z | hd
    · rw [z]
      exact log99 g.l0 (by have := g.l9; omega)
    · rcases List.mem_cons.mp hd with z | hd
      · rw [z]
        exact log99 g.r0 (by have := g.r9; omega)
      · rcases List.mem_cons.mp hd with z | hd
        · rw [z]
          exact log99 (by have := g.n1; omega) g.n9
        · cases hd
theorem row_join (a : Ro) : Txt.join " " (((rowPs a).map fun d => PyData.str (strP d)).map strD) = rowW a := rfl
theorem e_addS2 {σ : L2.St} {F : Hp} {ta tb : TE} {x y z : PySem.Str} (ha : EvD ta σ F (.str x)) (hb : EvD tb σ F (.str y)) (hl : x.length + y.length ≤ 1000) (hz : x ++ y = z) :
    EvD (tOp (fun x y H Q => ∃ i j, x = .str i ∧ y = .str j ∧ i.length + j.length ≤ sizeLine ∧ Q (.str (i ++ j)) H) ta tb) σ F (.str z) := hz ▸ e_addS ha hb hl
end Q

set_option maxHeartbeats 400000
namespace Q
open PySem PySem.Spec PyProof.Rows L2 Ca
/-! ### rows sorted: the order in which they came does not matter -/
theorem str_tri {x y : PySem.Str} (h1 : ¬ x.cps.toList < y.cps.toList) (h2 : ¬ y.cps.toList < x.cps.toList) : x = y := by
  have e : x.cps.toList = y.cps.toList := List.le_antisymm (List.not_lt.mp h2) (List.not_lt.mp h1)
  exact TL.ext_tl e
def roLt (a b : Ro) : Bool := if a.k = b.k then (if a.l = b.l then (if a.r = b.r then (if a.n = b.n then false else decide (a.n < b.n)) else decide (a.r < b.r)) else decide (a.l < b.l)) else decide (a.k.cps.toList < b.k.cps.toList)
theorem ro_lt (a b : Ro) : PySem.W.dataLt (roD a) (roD b) = roLt a b := by
  unfold roD roLt
  rw [PySem.W.dataLt_tuple, PySem.W.dataLt_cons (by simp [PySem.W.alike]), PySem.W.dataLt_cons (by simp [PySem.W.alike]), PySem.W.dataLt_cons (by simp [PySem.W.alike]), PySem.W.dataLt_cons (by simp [PySem.W.alike])]
  simp only [PyData.eqv, PySem.W.dataLt_int, PySem.W.dataLt_str, beq_iff_eq, decide_eq_true_eq, lex_irrefl]
theorem ro_anti {a b : Ro} (h1 : roLt a b = false) (h2 : roLt b a = false) : a = b := by
  unfold roLt at h1 h2
  by_cases ek : a.k = b.k
  · rw [if_pos ek] at h1
    rw [if_pos ek.symm] at h2
    by_cases el : a.l = b.l
    · rw [if_pos el] at h1
      rw [if_pos el.symm] at h2
      by_cases er : a.r = b.r
      · rw [if_pos er] at h1
        rw [if_pos er.symm] at h2
        by_cases en : a.n = b.n
        · cases a; cases b
          simp_all
        · rw [if_neg en] at h1
          rw [if_neg (Ne.symm en)] at h2
          simp only [decide_eq_false_iff_not] at h1 h2
          omega
      · rw [if_neg er] at h1
        rw [if_neg (Ne.symm er)] at h2
        simp only [decide_eq_false_iff_not] at h1 h2
        omega
    · rw [if_neg el] at h1
      rw [if_neg (Ne.symm el)] at h2
      simp only [decide_eq_false_iff_not] at h1 h2
      omega
  · rw [if_neg ek] at h1
    rw [if_neg (Ne.symm ek)] at h2
    simp only [decide_eq_false_iff_not] at h1 h2
    exact absurd (str_tri h1 h2) ek
theorem srt_up (rs : List Ro) {ks : List Ro} (h : srtD (rs.map roD) = ks.map roD) : ks.Pairwise fun a b => roLt b a = false := by
  have tot : PySem.W.TotalLe (PySem.W.dataLe false (id : PyData → PyData)) := PySem.W.sortLe_total _ _ _
  have pw : (srtD (rs.map roD)).Pairwise (fun a b => PySem.W.dataLe false id a b = true) := PySem.W.sort_pairwise tot _
  rw [h, List.pairwise_map] at pw
  refine pw.imp fun {a b} z => ?_
  have z2 : (!PySem.W.dataLt (roD b) (roD a)) = true := z
  rw [ro_lt] at z2
  simpa using z2
theorem up_same : ∀ {a b : List Ro}, a.Perm b → a.Pairwise (fun x y => roLt y x = false) → b.Pairwise (fun x y => roLt y x = false) → a = b := fun {a b} p h1 h2 =>
  List.Perm.eq_of_pairwise (fun x y _ _ u v => ro_anti v u) h1 h2 p
theorem srt_same {rs ts ks ls : List Ro} (p : rs.Perm ts) (h1 : srtD (rs.map roD) = ks.map roD) (h2 : srtD (ts.map roD) = ls.map roD) : ks = ls :=
  up_same ((srt_perm h1).trans (p.trans (srt_perm h2).symm)) (srt_up rs h1) (srt_up ts h2)
theorem srt_sameD {rs ts : List Ro} (p : rs.Perm ts) : srtD (rs.map roD) = srtD (ts.map roD) := by
  obtain ⟨ks, e1, _⟩ := srt_rows rs
  obtain ⟨ls, e2, _⟩ := srt_rows ts
  rw [e1, e2, srt_same p e1 e2]
theorem srt_idem {rs ks : List Ro} (h : srtD (rs.map roD) = ks.map roD) : srtD (ks.map roD) = ks.map roD := by
  rw [srt_sameD (srt_perm h), h]
theorem are_perm {rs ks : List Ro} (p : ks.Perm rs) (h : AreR (rs.map roD)) : AreR (ks.map roD) := by
  obtain ⟨h1, r2, e, g, nd⟩ := h
  have : rs = r2 := roD_inj e
  subst this
  refine ⟨by rw [List.length_map] at h1 ⊢; rw [p.length_eq]; exact h1, ks, rfl, fun a ha => g a (p.mem_iff.mp ha), ?_⟩
  exact (p.map roK).nodup_iff.mpr nd
end Q

set_option maxHeartbeats 400000
namespace Q
open PySem PySem.Spec PyProof.Rows L2 Ca
/-! ### more rules: arguments with what is true of them, lists of values of any kind -/
def EvAP (ta : TA) (σ : L2.St) (F : Hp) (Ps : List (Hp → V → Prop)) : Prop := ∀ (S : Addr → Bool) (H1 : Hp), Fr S H1 → Same F (offS S H1) → ∀ Q : List V → Hp → Prop, (∀ vs H2, Same H1 H2 → PsA (offS S H2) Ps vs → Q vs H2) → ta σ H1 Q
def RowsP (m : Nat) (v o : Int) : Hp → V → Prop := fun H x => ∃ rs : List Ro, Rp H x (.list (rs.map roD)) ∧ rs.length ≤ m ∧ (∀ a ∈ rs, RowIn v o a) ∧ (rs.map roK).Nodup
theorem psa1 {H : Hp} {P1 : Hp → V → Prop} {vs : List V} (r : PsA H [P1] vs) : ∃ a, vs = [a] ∧ P1 H a := by
  cases r with
  | cons h r =>
    cases r
    exact ⟨_, rfl, h⟩
theorem psa2 {H : Hp} {P1 P2 : Hp → V → Prop} {vs : List V} (r : PsA H [P1, P2] vs) : ∃ a b, vs = [a, b] ∧ P1 H a ∧ P2 H b := by
  cases r with
  | cons h r =>
    obtain ⟨b, rfl, hb⟩ := psa1 r
    exact ⟨_, b, rfl, h, hb⟩
theorem psa3 {H : Hp} {P1 P2 P3 : Hp → V → Prop} {vs : List V} (r : PsA H [P1, P2, P3] vs) : ∃ a b c, vs = [a, b, c] ∧ P1 H a ∧ P2 H b ∧ P3 H c := by
  cases r with
  | cons h r =>
    obtain ⟨b, c, rfl, hb⟩ := psa2 r
    exact ⟨_, b, c, rfl, h, hb⟩
theorem psa4 {H : Hp} {P1 P2 P3 P4 : Hp → V → Prop} {vs : List V} (r : PsA H [P1, P2, P3, P4] vs) : ∃ a b c d, vs = [a, b, c, d] ∧ P1 H a ∧ P2 H b ∧ P3 H c ∧ P4 H d := by
  cases r with
  | cons h r =>
    obtain ⟨b, c, d, rfl, hb⟩ := psa3 r
    exact ⟨_, b, c, d, rfl, h, hb⟩
section
variable {K : PySem.W.Frag} {s : Addr} {σ : L2.St} {F : Hp} {ta tb te tm tl : TE} {tas : TA} {P P1 P2 : Hp → V → Prop} {Ps : List (Hp → V → Prop)} {E : XK} {C : Addr} {I : Hp → List V → (Hp → V → Prop) → Prop}
theorem ap_nil : EvAP tNil σ F [] := fun S H1 f sm Q q => q _ H1 (Same.refl _) .nil
theorem ap_cons (h : EvP te σ F P) (m : Mon P) (hs : EvAP tas σ F Ps) : EvAP (tCons te tas) σ F (P :: Ps) := fun S H1 f sm Q q =>
  h S H1 f sm _ fun v H2 s2 p => hs S H2 (f.mono s2) (sm.trans (offS_mono s2)) _ fun vs H3 s3 r => q _ H3 (s2.trans s3) (.cons (m _ _ _ (offS_mono s3) p) r)
theorem e_callQ (h : EvAP tas σ F Ps) (hi : ∀ F vs, PsA F Ps vs → I F vs P) : EvP (tCall (spQ I) [] E tas) σ F P := fun S H1 f sm Q q =>
  h S H1 f sm _ fun vs H2 s2 r => ⟨S, P, f.mono s2, by rw [List.append_nil]; exact hi _ _ r, fun v H3 s3 p => q v H3 (s2.trans s3) p⟩
theorem k_cat {n m : Nat} (ha : EvK s ta σ F (LsP n P)) (hb : EvK s tb σ F (LsP m P)) (mo : Mon P) (hl : n + m ≤ 1000) : EvK s (tOp rCat ta tb) σ F (LsP (n + m) P) := fun S H1 f hS hc sm Q q =>
  ha S H1 f hS hc sm _ fun x H2 k2 c2 p1 => hb S H2 (k2.fr c2 f) hS c2 (sm.trans (k2.off hS)) _ fun y H3 k3 c3 p2 => by
    obtain ⟨a, xs, rfl, h1, l1, e1⟩ := mon_ls mo _ _ _ (k3.off hS) p1
    obtain ⟨b, ys, rfl, h2, l2, e2⟩ := p2
    refine ⟨a, b, xs, ys, rfl, rfl, offS_same _ _ h1, offS_same _ _ h2, Nat.le_of_lt (small1000 (by omega)), fun p hp => q _ _ ((k2.trans k3).trans (.of (same_new hp))) (src_same c3 (same_new hp)) ⟨p, xs ++ ys, rfl, offS_new ((k2.trans k3).fr c3 f) hp, by rw [List.length_append]; omega, fun x hx => mo _ _ _ (offS_mono (same_new hp)) ?_⟩⟩
    rcases List.mem_append.mp hx with z | z
    · exact e1 x z
    · exact e2 x z
/-- Table.read of what text() writes -/
theorem e_cmethT {ks : List Ro} (hC : EvP ta σ F fun _ v => v = .ref C) (h : EvD te σ F (.str (txr ks))) (hA : AreR (ks.map roD)) (g : ∀ a ∈ ks, GoodR a) (hs : srtD (ks.map roD) = ks.map roD) : EvP (ClX.tCMeth C (spQ (ITRead C)) E ta (tCons te tNil)) σ F (TV C ks) := fun S H1 f s Q q =>
  hC S H1 f s _ fun v H2 s2 e => ⟨e, h S H2 (f.mono s2) (s.trans (offS_mono s2)) _ fun v H3 s3 r => by
    cases r
    exact ⟨S, TV C ks, f.mono (s2.trans s3), ⟨ks, rfl, hA, g, hs, rfl⟩, fun v H4 s4 p => q v H4 ((s2.trans s3).trans s4) p⟩⟩
theorem e_pow {i j : Int} (ha : EvD ta σ F (.int i)) (hb : EvD tb σ F (.int j)) (h : CPow i j) : EvD (tOp (rI CPow fun i j => .int (i ^ j.toNat)) ta tb) σ F (.int (i ^ j.toNat)) := e_op ha hb fun S H x y f rx ry Q q => by
  cases rx; cases ry
  exact ⟨i, j, rfl, rfl, h, q _ H (Same.refl _) (.int _)⟩
variable {S : Addr → Bool} {H : Hp} {D : L2.Ends} {t u : TS} {g : TG}
theorem go_forK {n : Nat} (f : Fr S H) (hS : S s = true) (hc : Src H s) (h : EvK s tl σ (offS S H) (LsP n P)) (mo : Mon P) (k : ∀ H1, Kp s H H1 → Src H1 s → Fr S H1 → ∃ Pv : Nat → L2.St → Hp → Prop, Pv 0 σ H1 ∧
    (∀ i σ' H', Pv i σ' H' → Same (offS S H1) (offS S H')) ∧
    (∀ i x σ' H', i < n → P (offS S H') x → Pv i σ' H' → g x σ' H' fun σ2 H2 => t { D with nx := Pv (i + 1), ct := Pv (i + 1), bk := D.nx } σ2 H2) ∧
    (∀ σ' H', Pv n σ' H' → D.nx σ' H')) : tFor (iList K tl) g t D σ H :=
  h S H f hS hc (Same.refl _) _ fun v H1 k1 c1 ⟨a, xs, e, ha, hl, hx⟩ => by
    subst e
    obtain ⟨Pv, p0, pk, ps, pd⟩ := k H1 k1 c1 (k1.fr c1 f)
    refine ⟨a, rfl, ⟨xs, .inl (.inl (offS_same _ _ ha))⟩, for_list (xs := xs) Pv p0 (fun i σ' H' _ p => .inl (.inl (offS_same _ _ (pk i σ' H' p _ _ ha)))) (fun i x σ' H' hx2 p => ?_) fun σ' H' p => pd σ' H' (by rw [hl] at p; exact p)⟩
    refine ps i x σ' H' ?_ (mo _ _ _ (pk i σ' H' p) (hx x (List.mem_of_getElem? hx2))) p
    rw [← hl]
    exact (List.getElem?_eq_some_iff.mp hx2).1
theorem go_forKS {n : Nat} (f : Fr S H) (hS : S s = true) (hc : Src H s) (h : EvK s tl σ (offS S H) (LsP n P)) (mo : Mon P) (k : ∀ H1, Kp s H H1 → Src H1 s → Fr S H1 → ∃ Pv : Nat → L2.St → Hp → Prop, Pv 0 σ H1 ∧
    (∀ i σ' H', Pv i σ' H' → Same (offS S H1) (offS S H')) ∧
    (∀ i x σ' H', i < n → P (offS S H') x → Pv i σ' H' → g x σ' H' fun σ2 H2 => t { D with nx := Pv (i + 1), ct := Pv (i + 1), bk := u D } σ2 H2) ∧
    (∀ σ' H', Pv n σ' H' → u D σ' H')) : tSeq (tFor (iList K tl) g t) u D σ H := go_forK (D := { D with nx := u D }) f hS hc h mo k
end
theorem fit_ro {a : Ro} (g : GoodR a) : Fit (roD a) 1 100 := by
  refine (fit_tuple (k := 0) (n := 20) (m := 4) (fun d hd => ?_) (Nat.le_refl _)).mono (Nat.le_refl _) (by omega)
  have := g.l0
  have := g.l9
  have := g.r0
  have := g.r9
  have := g.n1
  have := g.n9
  rcases List.mem_cons.mp hd with z | hd
  · subst z
    exact (fit_str (ascii_kind g.k) (Nat.le_of_eq (kind1 g.k))).mono (Nat.le_refl _) (by omega)
  · rcases List.mem_cons.mp hd with z | hd
    · subst z
      exact fit_int (by omega)
    · rcases List.mem_cons.mp hd with z | hd
      · subst z
        exact fit_int (by omega)
      · rcases List.mem_cons.mp hd with z | hd
        · subst z
          exact fit_int (by omega)
        · cases hd
theorem fit_rows {ks : List Ro} (g : ∀ a ∈ ks, GoodR a) (h : ks.length ≤ 12) : Fit (.tuple (ks.map roD)) 2 2000 := by
  refine (fit_tuple (k := 1) (n := 100) (m := 12) (fun d hd => ?_) (by rw [List.length_map]; exact h)).mono (Nat.le_refl _) (by omega)
  obtain ⟨a, ha, rfl⟩ := List.mem_map.mp hd
  exact fit_ro (g a ha)
theorem are_good {rs : List Ro} (h : AreR (rs.map roD)) : (∀ a ∈ rs, GoodR a) ∧ rs.length ≤ 12 ∧ (rs.map roK).Nodup := by
  obtain ⟨h1, r2, e, g, nd⟩ := h
  have : rs = r2 := roD_inj e
  subst this
  rw [List.length_map] at h1
  exact ⟨g, h1, nd⟩
theorem are_of {rs : List Ro} (g : ∀ a ∈ rs, GoodR a) (h : rs.length ≤ 12) (nd : (rs.map roK).Nodup) : AreR (rs.map roD) := ⟨by rw [List.length_map]; exact h, rs, rfl, g, nd⟩
end Q

set_option maxHeartbeats 400000
namespace Q
open PySem PySem.Spec PyProof.Rows L2 Ca
theorem go_retC1 {σ : L2.St} {S : Addr → Bool} {H : Hp} {D : L2.Ends} {te : TE} {P : Hp → V → Prop} {sp : Sp} {E : XK} (f : Fr S H) (h : EvP te σ (offS S H) P) (k : ∀ v H', Same H H' → P (offS S H') v → sp [v] H' D.rt E) : tRet (tCall sp [] E (tCons te tNil)) D σ H := h S H f (Same.refl _) _ k
theorem passW {X : Cx} {W : WX} (tk : Takes X W) : Passes (L2.CX X.prog X.w) X (fun cls d H => ∀ σ, W cls d σ H) := fun pins σ H s e s' I c => tk e s' (XE.of_call I (fun _ _ _ h => h σ) c)
theorem tv_ins {C : Addr} {ks : List Ro} {F : Hp} {v : V} (h : TV C ks F v) : ∃ a dx o, v = .ref a ∧ F a = some (.ins C dx (tf (.ref o))) := by
  obtain ⟨x, dx, o, e, h1, _⟩ := h
  exact ⟨x, dx, o, e, h1⟩
theorem tv_rows {C : Addr} {ks : List Ro} : ∀ F v, TV C ks F v → ITRows C F [v] (fun H v => Rp H v (.tuple (ks.map roD))) ∧ ∃ a dx fs, v = .ref a ∧ F a = some (.ins C dx fs) := fun F v h => by
  obtain ⟨a, dx, o, e, h1⟩ := tv_ins h
  exact ⟨⟨v, ks, rfl, h, rfl⟩, a, dx, _, e, h1⟩
def spLaw (K : PySem.W.Frag) : Sp := fun vs H Q _ => ∃ (a : Addr) (ns : List Int), vs = [.ref a] ∧ SqL K H a (ns.map V.int) ∧ ns.length ≤ 63 ∧ ∀ H', Q (.bl true) H'
theorem same_kp {H H2 H3 : Hp} {p : Addr} (s : Same H H2) (p0 : H p = none) (k : Kp p H2 H3) : Same H H3 := fun b o e => k b o (ne_of_none e p0) (s b o e)
theorem mon_eq {x : V} : Mon (fun _ v => v = x) := fun _ _ _ _ h => h
theorem tv_text {C : Addr} {ks : List Ro} (g : ∀ a ∈ ks, GoodR a) (hz : ks.length ≤ 1000) : ∀ F v, TV C ks F v → ITText C F [v] (fun H v => Rp H v (.str (txr ks))) ∧ ∃ a dx fs, v = .ref a ∧ F a = some (.ins C dx fs) ∧ fs.lookup ("text" : PySem.Str) = none := fun F v h => by
  obtain ⟨a, dx, o, e, h1⟩ := tv_ins h
  exact ⟨⟨v, ks, rfl, h, hz, g, rfl⟩, a, dx, _, e, h1, tf_no _ (by decide +kernel)⟩
abbrev frP (p : Addr) : Addr → Bool := fun b => decide (b = p)
theorem fr_src {p : Addr} {H : Hp} (h : Src H p) : Fr (frP p) H := fun b hb => by
  rw [of_decide_eq_true hb]
  obtain ⟨a, b, c, e⟩ := h
  exact ⟨_, e, trivial⟩
theorem frP_self (p : Addr) : frP p p = true := decide_eq_true rfl
end Q

set_option maxHeartbeats 400000
namespace Ca
open PySem PySem.Spec PyProof.Rows L2
/-! own operators: x op y, x an instance whose class has the operator as a def, y another one or data -/
def tyN : List String := ["NoneType", "bool", "int", "str", "list", "tuple", "dict"]
structure OwnOp (K : PySem.W.Frag) (C f : Addr) (op : Operator) : Prop where
  first : PySem.W.selfFirst K C = true
  has : PySem.W.findIn K (.ref C) (PySem.dunder op.info.2) = some (some (.ref f))
  fn : PySem.W.isFn K (.ref f) = true
  rev : PySem.W.findIn K (.ref C) (dunderR op.info.2) = some none
  other : ∀ T ∈ tyN, (∃ fo, PySem.W.findIn K (.type T) (PySem.dunder op.info.2) = some fo) ∧ (∃ ro, PySem.W.findIn K (.type T) (dunderR op.info.2) = some ro) ∧ PySem.W.subIn K (.type T) (.ref C) = some false
open PySem.W in
theorem own_bin {P : Program} {w : World} {A : Around} {E : Value → Shared → Prop} {s : Shared} {K : PySem.W.Frag} {x C L f : Addr} {h₀ : Heap} {m : PySem.Str → Option Value} {ox : Obj} {od : Option Obj} {op : Operator} {b : Value} {T : String} {Q : Value → Shared → Prop}
    (fr : PyProof.Rows.Fr h₀ L s.heap m) (kin : K.In h₀) (J : InstAt s.heap x ox C od) (o : OwnOp K C f op) (hT : T ∈ tyN) (lb : Looks (model P w) s.heap (typeOf b) (.type T))
    (go : wpAny (model P w) A (call (.ref f) [.ref x, b]) (PySem.W.CmpBack Q) E s) : wpAny (model P w) A (binaryOp op (.ref x) b) Q E s := by
  obtain ⟨⟨fo, e1⟩, ⟨ro, e2⟩, e3⟩ := o.other T hT
  have kh := kin.keeps fr.keep
  obtain ⟨cd, rest, c1, c2⟩ := ksp_first o.first
  have hs := o.has
  have hr := o.rev
  rcases ei : op.info with ⟨sy, nm⟩
  rw [ei] at hs hr e1 e2
  dsimp only at hs hr e1 e2
  have tm := ksp_try kh J hs o.fn go
  obtain ⟨hh, gg, dd, tt, oo⟩ := s
  have a1 : Looks (model P w) hh (typeOf (.ref x)) (.ref C) := J.type
  have a2 : Looks (model P w) hh (typeOf b) (.type T) := lb
  have a3 : Looks (model P w) hh (fillsNumberSlot (.ref C) nm) true := fills_K kh c1 c2 hs
  have a4 : Looks (model P w) hh (fillsNumberSlot (.type T) nm) ((fo.isSome && !isSeqSlot fo) || (ro.isSome && !isSeqSlot ro)) := ksp_fillsT kh e1 e2
  have a5 : Looks (model P w) hh (isSubtype (.type T) (.ref C)) false := looks_subIn kh e3
  have a6 : Looks (model P w) hh (numberSlotInPython (.ref C) nm) true := ksp_inPy kh hs hr (.inl rfl)
  have a7 : Looks (model P w) hh (numberSlotInPython (.type T) nm) false := Looks.of_pure rfl
  have a8 : Looks (model P w) hh (typeLookup (.type T) (dunderR nm)) ro := looks_findIn kh e2
  generalize ((fo.isSome && !isSeqSlot fo) || (ro.isSome && !isSeqSlot ro)) = rt at a4
  have ne : (Value.ref C == Value.type T) = false := by
    cases e : (Value.ref C == Value.type T) with
    | false => rfl
    | true => cases beq_iff_eq.mp e
  simp only [binaryOp, ei]
  refine wpAny_holding (wpAny_bind ?_)
  unfold binaryOp1
  refine wpAny_bind (a1.at (wpAny_bind (a2.at (wpAny_bind (a3.at ?_)))))
  simp only [ne, Bool.false_eq_true, if_false]
  cases rt
  all_goals
    ksp_lk
    refine wpAny_mono tm (fun r s' z => ?_) fun _ _ z => z
    obtain ⟨v, rfl, z2⟩ := z
    ksp_lk
    exact z2
/-- the values that may stand on the right -/
def rOwn (K : PySem.W.Frag) (C : Addr) (sp : Sp) (E : XK) : R2 := fun x y H Q => ∃ a dx fs t, x = .ref a ∧ H a = some (.ins C dx fs) ∧ TyX K H y t ∧ (t = .ref C ∨ ∃ T ∈ tyN, t = .type T) ∧ sp [x, y] H Q E
theorem op_own {X : Cx} {CX : CXT} {k : Nat} {f C : Addr} {fd : FuncData} {ps : List PySem.Str} {sp : Sp} {E : XK} {op : Operator} (o : OwnOp X.K C f op) (F : FnOk X.prog X.w X.K X.mg X.base CX k f fd ps sp) (hb : Binds X.K fd ps []) (hr : Room k X.A) (hx : Passes CX X E) :
    OpR X (binaryOp op) (rOwn X.K C sp E) := by
  intro pins s σ H x y v u Q I rx ry h
  obtain ⟨a, dx, fs, t, rfl, ha, ty, ht, q⟩ := h
  cases (show v = Value.ref a from rx)
  obtain ⟨mA, O, _⟩ := ins_get I.hok ha
  obtain ⟨od, J, _⟩ := O.look
  obtain ⟨m, fr⟩ := I.fr
  have go : wpAny (model X.prog X.w) X.A (call (.ref f) [.ref a, u]) (PySem.W.CmpBack (EP X pins σ Q)) X.xe s := by
    refine wpAny_mono (run_fnS (E := fun _ => E) F hr hb (fun pins H s e s' I c => hx pins σ H s e s' I c) I (.cons rx (.cons ry .nil)) q) (fun r s' z => ?_) fun _ _ z => z
    obtain ⟨vv, H', J', rv, q'⟩ := id z
    cases vv with
    | non => cases (show r = _ from rv); exact z
    | bl b => cases (show r = _ from rv); exact z
    | int i => obtain ⟨t, e⟩ := (show ∃ t, r = Value.int i t from rv); subst e; exact z
    | str i => obtain ⟨t, e⟩ := (show ∃ t, r = Value.str i t from rv); subst e; exact z
    | byt i => obtain ⟨t, e⟩ := (show ∃ t, r = Value.bytes i t from rv); subst e; exact z
    | flt i => obtain ⟨t, e⟩ := (show ∃ t, r = Value.float i t from rv); subst e; exact z
    | ref i => cases (show r = _ from rv); exact z
    | ty i => cases (show r = _ from rv); exact z
  obtain ⟨P, Z, p, _⟩ := kit_of I ry ty
  have lk := Z.ty (model X.prog X.w) s.heap I.kIn p
  rcases ht with e | ⟨T, hT, e⟩
  · rw [e] at lk
    exact PySem.W.binop_K fr I.ok.mod.kin J lk o.first o.has o.fn go
  · rw [e] at lk
    exact own_bin fr I.ok.mod.kin J o hT lk go
end Ca

set_option maxHeartbeats 400000
namespace Ca
open PySem PySem.Spec PyProof.Rows L2
/-! max(x, default=d), x a list of ints -/
def gmax (d : Int) (ns : List Int) : Int := match ns with
  | [] => d
  | n :: ns => PySem.W.maxOf n ns
def rMaxDf (K : PySem.W.Frag) : List V → List V → Hp → VK → Prop := fun xs zs H Q => ∃ a ns d, xs = [.ref a] ∧ zs = [.int d] ∧ SqL K H a (ns.map V.int) ∧ Q (.int (gmax d ns)) H
theorem cr_maxDf {X : Cx} {k : Nat} (hc : X.calm = true) (hr : Room k X.A) : CallRK X (.builtin "max") ["default"] (rMaxDf X.K) := by
  intro pins s σ H xs zs us ws Q I r rz h
  obtain ⟨a, ns, d, rfl, rfl, hs, q⟩ := h
  obtain ⟨its, rv, hl, _⟩ := I.list hs
  rw [Vals.ref1 r]
  cases rz with
  | @cons _ u _ _ r1 rt =>
    cases rt
    have hu := hr.units
    refine PySem.W.max_list_datum_default (α := Int) (xs := ns) (I.ok.hd hc) hl.isList (.of_ints (by simpa using rv.ints)) (by show X.A.units + 1 + 0 < cLine; omega) (fun e h' tk hk => ?_) fun y ys i v h' tk e hi hv hk => ?_
    · subst e
      exact ⟨.int d, H, I.kept hk, r1, q⟩
    · subst e
      obtain ⟨as, rd⟩ := hv
      refine ⟨.int (PySem.W.maxOf y ys), H, I.kept hk, ?_, q⟩
      cases rd
      exact ⟨_, rfl⟩
theorem maxOf_ge : ∀ (ns : List Int) (n : Int), n ≤ PySem.W.maxOf n ns ∧ ∀ m ∈ ns, m ≤ PySem.W.maxOf n ns
  | [], n => ⟨Int.le_refl _, fun m h => by cases h⟩
  | k :: ns, n => by
    have e : PySem.W.maxOf n (k :: ns) = PySem.W.maxOf (if PySem.W.DatumOrd.lt n k = true then k else n) ns := rfl
    rw [e]
    have lt : PySem.W.DatumOrd.lt n k = decide (n < k) := rfl
    rw [lt]
    by_cases c : n < k
    · rw [decide_eq_true c, if_pos rfl]
      obtain ⟨h1, h2⟩ := maxOf_ge ns k
      refine ⟨by omega, fun m hm => ?_⟩
      rcases List.mem_cons.mp hm with z | z
      · rw [z]; exact h1
      · exact h2 m z
    · rw [decide_eq_false c, if_neg (by decide)]
      obtain ⟨h1, h2⟩ := maxOf_ge ns n
      refine ⟨h1, fun m hm => ?_⟩
      rcases List.mem_cons.mp hm with z | z
      · rw [z]; omega
      · exact h2 m z
theorem maxOf_mem : ∀ (ns : List Int) (n : Int), PySem.W.maxOf n ns ∈ n :: ns
  | [], n => .head _
  | k :: ns, n => by
    have e : PySem.W.maxOf n (k :: ns) = PySem.W.maxOf (if PySem.W.DatumOrd.lt n k = true then k else n) ns := rfl
    rw [e]
    have h := maxOf_mem ns (if PySem.W.DatumOrd.lt n k = true then k else n)
    rcases List.mem_cons.mp h with z | z
    · rw [z]
      split
      · exact .tail _ (.head _)
      · exact .head _
    · exact .tail _ (.tail _ z)
section
variable {K : PySem.W.Frag} {σ : L2.St} {F : Hp} {ta tb te : TE} {ds : List PyData}
theorem e_maxDf {ns : List Int} {d : Int} (h : EvD ta σ F (.list (ns.map .int))) (hd : EvD tb σ F (.int d)) : EvD (tCKw (rMaxDf K) (tCons ta tNil) (tCons tb tNil)) σ F (.int (gmax d ns)) := fun S H1 f s Q q =>
  h S H1 f s _ fun v H2 s2 r => hd S H2 (f.mono s2) (s.trans (offS_mono s2)) _ fun v1 H3 s3 r1 => by
    obtain ⟨a, xs, rfl, ha, rx⟩ := rp_lst r
    cases r1
    rw [ints_rp rx] at ha
    exact ⟨a, ns, d, rfl, rfl, .inl (.inl (s3 _ _ ha)), q _ H3 (s2.trans s3) (.int _)⟩
theorem e_max2 {i j : Int} (ha : EvD ta σ F (.int i)) (hb : EvD tb σ F (.int j)) : EvD (tCB (fun xs H Q => ∃ i j, xs = [.int i, .int j] ∧ Q (.int (if j > i then j else i)) H) (tCons ta (tCons tb tNil))) σ F (.int (max i j)) := e_cb (a_cons ha (a_cons hb a_nil)) fun S H vs f r Q q => by
  obtain ⟨v, w, rfl, r1, r2⟩ := rpa2 r
  cases r1
  cases r2
  refine ⟨i, j, rfl, q _ H (Same.refl _) ?_⟩
  have e : (if j > i then j else i) = max i j := by
    rw [Int.max_def]
    split <;> split <;> omega
  rw [e]
  exact .int _
end
end Ca

set_option maxHeartbeats 400000
namespace Q
open PySem PySem.Spec PyProof.Rows L2 Ca
/-! ### check_table -/
structure IsC (K : PySem.W.Frag) (C : Addr) : Prop where
  ha : PySem.W.findIn K (.ref C) "__class__" = some (some (.builtin "object.__class__"))
  hn : PySem.W.specialIn K (.builtin "object.__class__") "__get__" = some (some (.builtin "getset_descriptor.__get__"))
  htk : PySem.W.takesIn K (.builtin "object.__class__") = some true
  hm : PySem.W.mroIn K C (.type "object") = some true
  kit : PySem.W.kitOne K (.ref C) (.ref C) = some true
  kd : ∀ T ∈ tyN, PySem.W.kitOne K (.type T) (.ref C) = some false
/-- a value that is no table -/
def OddV (F : Hp) (v : V) : Prop := (∃ d, Rp F v d) ∨ ∃ a xs, v = .ref a ∧ F a = some (.lst xs)
theorem OddV.mono {F F' : Hp} {v : V} (s : Same F F') (h : OddV F v) : OddV F' v := by
  rcases h with ⟨d, r⟩ | ⟨a, xs, e, h⟩
  · exact .inl ⟨d, r.mono s⟩
  · exact .inr ⟨a, xs, e, s _ _ h⟩
theorem mon_odd : Mon OddV := fun _ _ _ s h => h.mono s
theorem tyD_in (d : PyData) : tyD d ∈ tyN := by
  cases d <;> simp [tyD, tyN]
theorem OddV.ty {K : PySem.W.Frag} {F : Hp} {v : V} (h : OddV F v) : ∃ T ∈ tyN, TyX K F v (.type T) := by
  rcases h with ⟨d, r⟩ | ⟨a, xs, e, h⟩
  · exact ⟨tyD d, tyD_in d, r.ty⟩
  · subst e
    exact ⟨"list", by simp [tyN], .base (.lst h)⟩
theorem TV.ty {K : PySem.W.Frag} {C : Addr} {ks : List Ro} {F : Hp} {v : V} (cl : Cls K C) (ic : IsC K C) (h : TV C ks F v) : TyX K F v (.ref C) := by
  obtain ⟨x, dx, o, rfl, hx, _⟩ := h
  exact .base (.ins hx cl ic.ha ic.hn ic.htk ic.hm)
theorem e_isiC {K : PySem.W.Frag} {σ : L2.St} {F : Hp} {ta te : TE} {C : Addr} {P0 : Hp → V → Prop} {b : Bool} (cl : Cls K C) (ic : IsC K C) (h : EvP ta σ F P0) (hp : ∀ F v, P0 F v → (b = true ∧ ∃ ks, TV C ks F v) ∨ (b = false ∧ OddV F v)) (hc : EvP te σ F fun _ v => v = .ref C) (m : Mon P0) :
    EvD (tCB (rIsi K) (tCons ta (tCons te tNil))) σ F (.bool b) := fun S H1 f s Q q =>
  h S H1 f s _ fun v H2 s2 p => hc S H2 (f.mono s2) (s.trans (offS_mono s2)) _ fun w H3 s3 ew => by
    subst ew
    rcases hp _ _ (m _ _ _ (offS_mono s3) p) with ⟨rfl, ks, tv⟩ | ⟨rfl, od⟩
    · exact ⟨_, _, _, _, true, rfl, .own C, (tv.mono offS_same).ty cl ic, ic.kit, q _ H3 (s2.trans s3) (.bl _)⟩
    · obtain ⟨T, hT, ty⟩ := (od.mono offS_same).ty
      exact ⟨_, _, _, _, false, rfl, .own C, ty, ic.kd T hT, q _ H3 (s2.trans s3) (.bl _)⟩
abbrev s_ck : Stmt := top 35
theorem sc_ck : FnScope ["thing"] ["thing"] (defScope s_ck) := ⟨rfl, rfl, rfl, by decide +kernel, rfl, by decide +kernel, by decide +kernel⟩
def spCk (C NT : Addr) : Sp := fun vs H Q E => ∃ (S : Addr → Bool) (v : V) (b : Bool), vs = [v] ∧ Fr S H ∧ ((b = true ∧ ∃ ks, TV C ks (offS S H) v) ∨ (b = false ∧ OddV (offS S H) v)) ∧ (b = false → ∀ H', Same H H' → E (.ref NT) none H') ∧ (b = true → ∀ H', Same H H' → Q .non H')
/-! ### greatest_value, shifted_rows -/
abbrev s_gv : Stmt := top 30
abbrev nGv : List PySem.Str := ["rows", "kind", "left", "right", "often"]
theorem sc_gv : FnScope nGv ["rows"] (defScope s_gv) := ⟨rfl, rfl, rfl, by decide +kernel, rfl, by decide +kernel, by decide +kernel⟩
def gv (ks : List Ro) : Int := gmax (-1) (ks.map fun a => max a.l a.r)
def RGv : List PyData → PyData → Prop := fun ds d => ∃ ks : List Ro, ds = [.tuple (ks.map roD)] ∧ ks.length ≤ 1000 ∧ d = .int (gv ks)
abbrev s_sh : Stmt := top 32
abbrev nSh : List PySem.Str := ["rows", "step", "kind", "left", "right", "often"]
theorem sc_sh : FnScope nSh ["rows", "step"] (defScope s_sh) := ⟨rfl, rfl, rfl, by decide +kernel, rfl, by decide +kernel, by decide +kernel⟩
def shR (st : Int) (a : Ro) : Ro := ⟨a.k, a.l + st, a.r + st, a.n⟩
def RSh : List PyData → PyData → Prop := fun ds d => ∃ (ks : List Ro) (st : Int), ds = [.tuple (ks.map roD), .int st] ∧ ks.length ≤ 1000 ∧ d = .list ((ks.map (shR st)).map roD)
section
variable {P : Program} {w : World} {K : PySem.W.Frag} {mg : PySem.Str → Option Value} {base : Heap}
theorem ok_ck {f C N NT : Addr} {fd : FuncData} (F : FnP K "check_table" s_ck f fd) (T : Tx K mg) (TQ : TT K mg C N) (ic : IsC K C) (gC : mg "Table" = some (.ref C)) (XN : XT K mg "NoTable" NT) : FnOk P w K mg base (L2.CX P w) 1 f fd ["thing"] (spCk C NT) := by
  refine F.ok sc_ck (fun vs H Q E h => ?_) (fun cdv A outer s H vs Q E hr h => ?_)
  · obtain ⟨S, v, b, rfl, _⟩ := h
    rfl
  obtain ⟨S, v, b, rfl, fr, hv, kE, kQ⟩ := h
  refine ⟨_, pss_one (ps_if (pt_not (pt_val (pe_callB (call_isi : CallR _ _ (rIsi K)) (by rfl) T.isi bIsi (pa_cons (pv 0) (pa_cons (pe_glob (v := .ref C) rfl gC rfl) pa_nil)))))
      (pss_one (ps_raise rfl (takes_of rfl rfl rfl rfl) (pmk_own PySem.F.excBase_ValueError XN.xN XN.gN XN.kN (raises_own XN.bN XN.tN) rfl))) pss_nil), ?_⟩
  have mo : Mon (fun F v => (b = true ∧ ∃ ks, TV C ks F v) ∨ (b = false ∧ OddV F v)) := fun F F' v s h => by
    rcases h with ⟨e, ks, h⟩ | ⟨e, h⟩
    · exact .inl ⟨e, ks, h.mono s⟩
    · exact .inr ⟨e, h.mono s⟩
  refine go_if (b := !b) fr (b_not (b_val (e_isiC (K := K) (P0 := fun F v => (b = true ∧ ∃ ks, TV C ks F v) ∨ (b = false ∧ OddV F v)) TQ.cl ic (e_varP rfl fun _ sm => mo _ _ _ sm hv) (fun _ _ h => h) (fun S H1 f s Q q => q _ H1 (Same.refl _) rfl) mo))) (fun z H1 s1 f1 => kE (by simpa using z) H1 s1) fun z H1 s1 fr1 => kQ (by simpa using z) H1 s1
theorem ok_gv {f : Addr} {fd : FuncData} (F : FnP K "greatest_value" s_gv f fd) (T : Tx K mg) : FnOk P w K mg base CX0 1 f fd ["rows"] (spR RGv) := by
  refine F.ok sc_gv (spR_len (by rintro _ _ ⟨ks, rfl, _⟩; rfl)) (fun cdv A outer s H vs Q E hr h => ?_)
  obtain ⟨S, ds, d, fr, rA, ⟨ks, rfl, hz, rfl⟩, q⟩ := h
  obtain ⟨v0, rfl, r0⟩ := rpa1 rA
  refine ⟨_, PSs.nox (pss_one (ps_ret (pe_callBK (cr_maxDf rfl hr : CallRK _ _ _ (rMaxDf K)) (by rfl) T.max bMax (pa_cons (pe_lc (own := [("kind", 1), ("left", 2), ("right", 3), ("often", 4)]) (g := gTup K 4 (gCons (gName 1) (gCons (gName 2) (gCons (gName 3) (gCons (gName 4) gNil))))) rfl sc_gv.nd (pi_tupQ (K := K) rfl (pv 0))
    (blkOk_by (own := [("kind", 1), ("left", 2), ("right", 3), ("often", 4)]) (N := nGv) (sc := defScope s_gv) (by decide +kernel))
    (fun _ _ _ _ _ => pg_tup (by rfl) (pgs_cons (pg_name (i := 1) sc_gv.nd rfl (Or.inl rfl)) (pgs_cons (pg_name (i := 2) sc_gv.nd rfl (Or.inl rfl)) (pgs_cons (pg_name (i := 3) sc_gv.nd rfl (Or.inl rfl)) (pgs_cons (pg_name (i := 4) sc_gv.nd rfl (Or.inl rfl)) pgs_nil))))) (fun _ _ _ _ _ => pts_nil)
    (fun _ _ _ _ _ => pe_callB (call_max2 rfl) (by rfl) T.max bMax (pa_cons (pv 2) (pa_cons (pv 3) pa_nil)))) pa_nil) (pk_cons (pe_un un_neg pe_int) pk_nil)))), ?_⟩
  exact go_ret (P := fun H v => Rp H v (.int (gv ks))) fr (e_maxDf (ns := ks.map fun a => max a.l a.r) (eqD (e_lcT (K := K) (enc := roD) (b := fun _ => true) (ev := fun a => .int (max a.l a.r)) (e_var rfl r0) (by omega) fun a ha x F2 sF r => g_tup4 r fun v1 v2 v3 v4 q1 q2 q3 q4 => ⟨rfl, b_yes, fun _ => e_max2 (e_var rfl q2) (e_var rfl q3)⟩) (by rw [filter_yes, List.map_map]; rfl)) (e_neg e_int)) q
theorem ok_sh {f : Addr} {fd : FuncData} (F : FnP K "shifted_rows" s_sh f fd) (T : Tx K mg) : FnOk P w K mg base CX0 1 f fd ["rows", "step"] (spR RSh) := by
  refine F.ok sc_sh (spR_len (by rintro _ _ ⟨ks, st, rfl, _⟩; rfl)) (fun cdv A outer s H vs Q E hr h => ?_)
  obtain ⟨S, ds, d, fr, rA, ⟨ks, st, rfl, hz, rfl⟩, q⟩ := h
  obtain ⟨v0, v1, rfl, r0, r1⟩ := rpa2 rA
  refine ⟨_, PSs.nox (pss_one (ps_ret (pe_lc (own := [("kind", 2), ("left", 3), ("right", 4), ("often", 5)]) (g := gTup K 4 (gCons (gName 2) (gCons (gName 3) (gCons (gName 4) (gCons (gName 5) gNil))))) rfl sc_sh.nd (pi_tupQ (K := K) rfl (pv 0))
    (blkOk_by (own := [("kind", 2), ("left", 3), ("right", 4), ("often", 5)]) (N := nSh) (sc := defScope s_sh) (by decide +kernel))
    (fun _ _ _ _ _ => pg_tup (by rfl) (pgs_cons (pg_name (i := 2) sc_sh.nd rfl (Or.inl rfl)) (pgs_cons (pg_name (i := 3) sc_sh.nd rfl (Or.inl rfl)) (pgs_cons (pg_name (i := 4) sc_sh.nd rfl (Or.inl rfl)) (pgs_cons (pg_name (i := 5) sc_sh.nd rfl (Or.inl rfl)) pgs_nil))))) (fun _ _ _ _ _ => pts_nil)
    (fun _ _ _ _ _ => pe_tup (pa_cons (pv 2) (pa_cons (pe_op op_add (pv 3) (pv 1)) (pa_cons (pe_op op_add (pv 4) (pv 1)) (pa_cons (pv 5) pa_nil)))))))), ?_⟩
  exact go_ret (P := fun H v => Rp H v (.list ((ks.map (shR st)).map roD))) fr (eqD (e_lcT (K := K) (enc := roD) (b := fun _ => true) (ev := fun a => roD (shR st a)) (e_var rfl r0) (by omega) fun a ha x F2 sF r => g_tup4 r fun w1 w2 w3 w4 q1 q2 q3 q4 => ⟨rfl, b_yes, fun _ => e_tup (a_cons (e_var rfl q1) (a_cons (e_add (e_var rfl q2) (e_var rfl (r1.mono sF))) (a_cons (e_add (e_var rfl q3) (e_var rfl (r1.mono sF))) (a_cons (e_var rfl q4) a_nil))))⟩) (by rw [filter_yes, List.map_map]; rfl)) q
end
end Q

set_option maxHeartbeats 4000000
namespace Q
open PySem PySem.Spec PyProof.Rows L2 Ca
/-! ### _law_some -/
section
variable {K : PySem.W.Frag} {s : Addr} {σ : L2.St} {F : Hp} {ta tb te t1 t2 : TE} {P P1 P2 : Hp → V → Prop} {d : PyData} {ds : List PyData}
def EvBD (s : Addr) (tt : L2.TT) (σ : L2.St) (F : Hp) : Prop := ∀ (S : Addr → Bool) (H1 : Hp), Fr S H1 → S s = true → Src H1 s → Same F (offS S H1) → ∀ Q : Bool → Hp → Prop, (∀ b H2, Kp s H1 H2 → Src H2 s → Q b H2) → tt σ H1 Q
theorem bd_eq {lo hi z : Int} (h : EvK s te σ F (IntP lo hi)) : EvBD s (tTest (tOp rEq te (tC (.int z)))) σ F := fun S H1 f hS hc sm Q q => h S H1 f hS hc sm _ fun v H2 k2 c2 ⟨x, e, _⟩ => by
  subst e
  exact ⟨rfl, _, rfl, q _ H2 k2 c2⟩
theorem e_lstOfT (h : EvD ta σ F (.tuple ds)) : EvD (tCB (rLstQ K) (tCons ta tNil)) σ F (.list ds) := e_cb (a_cons h a_nil) fun S H vs f r Q q => by
  obtain ⟨v, rfl, r1⟩ := rpa1 r
  obtain ⟨a, xs, rfl, ha, rx⟩ := rp_tup r1
  exact ⟨a, xs, rfl, .inr (.inl (.inl ha)), fun l hl => q _ _ (same_new hl) (.lst (offS_new f hl) (rx.mono (offS_mono (same_new hl))))⟩
theorem e_lastL (ha : EvD ta σ F (.list ds)) (hb : EvD tb σ F (.int (-1))) (hd : ds.getLast? = some d) : EvD (tOp (rIxL K) ta tb) σ F d := e_op ha hb fun S H x y f rx ry Q q => by
  obtain ⟨a, xs, rfl, h1, r1⟩ := rp_lst rx
  cases ry
  obtain ⟨es, rfl⟩ := List.getLast?_eq_some_iff.mp hd
  obtain ⟨v, hv, rv⟩ := r1.at (show (es ++ [d])[es.length]? = some d by simp)
  have lx := r1.length
  rw [List.length_append] at lx
  have e : xs = xs.take es.length ++ [v] := by
    have h2 : es.length < xs.length := by
      rw [lx]
      exact Nat.lt_succ_self _
    rw [List.getElem?_eq_getElem h2] at hv
    have h3 : xs.drop es.length = [v] := by
      rw [List.drop_eq_getElem_cons h2, Option.some.inj hv, List.drop_of_length_le (by rw [lx]; exact Nat.le_refl _)]
    rw [← h3, List.take_append_drop]
  refine ⟨a, xs, -1, v, rfl, rfl, .inl (.inl h1), ?_, q _ H (Same.refl _) rv⟩
  rw [e]
  exact atI_last _ v
variable {S : Addr → Bool} {H : Hp} {D : L2.Ends} {t u : TS}
theorem go_ifAnd {t1 t2 : L2.TT} {a b : TS} {c : Bool} (f : Fr S H) (h : EvB t1 σ (offS S H) c) (k1 : c = true → ∀ H', Same H H' → t2 σ H' fun c H1 => if c = true then a D σ H1 else b D σ H1) (k2 : c = false → ∀ H', Same H H' → b D σ H') :
    tIfS (tAnd t1 t2) a b D σ H := h S H f (Same.refl _) _ fun H' s => by
  cases c with
  | true => exact k1 rfl H' s
  | false => exact k2 rfl H' s
theorem go_parK {i j : Nat} (f : Fr S H) (hS : S s = true) (hc : Src H s) (h1 : EvK s t1 σ (offS S H) P1) (h2 : EvK s t2 σ (offS S H) P2) (m1 : Mon P1)
    (k : ∀ v w H', Kp s H H' → Src H' s → Fr S H' → P1 (offS S H') v → P2 (offS S H') w → u D ((σ.set i (some v)).set j (some w)) H') : tSeq (tPar i j (tCons t1 (tCons t2 tNil))) u D σ H :=
  h1 S H f hS hc (Same.refl _) _ fun v H2 k2 c2 p1 => h2 S H2 (k2.fr c2 f) hS c2 (k2.off hS) _ fun w H3 k3 c3 p2 => ⟨v, w, rfl, k v w H3 (k2.trans k3) c3 ((k2.trans k3).fr c3 f) (m1 _ _ _ (k3.off hS) p1) p2⟩
theorem go_putK {p : Addr} {i j n : Nat} {xs : List V} (f : Fr S H) (hS : S s = true) (hc : Src H s) (ne : p ≠ s) (hv : σ[i]? = some (some (.ref p))) (hj : σ[j]? = some (some (.int (n : Int)))) (hp : H p = some (.lst xs)) (hn : n < xs.length) (h : EvK s te σ (offS S H) P)
    (k : ∀ y H', Kp s H H' → Src H' s → H' p = some (.lst xs) → P (offS S H') y → D.nx σ (upd H' p (.lst (xs.set n y)))) : tAsg te (gSub (tVar i) (tVar j) L2.rSetL) D σ H :=
  h S H f hS hc (Same.refl _) _ fun v H' k' c r => ⟨_, hv, _, hj, p, xs, _, n, rfl, rfl, k' _ _ ne hp, by
    unfold ixN
    simp [hn], k v H' k' c (k' _ _ ne hp) r⟩
theorem go_appK {p : Addr} {i : Nat} {xs : List V} (f : Fr S H) (hS : S s = true) (hc : Src H s) (ne : p ≠ s) (hv : σ[i]? = some (some (.ref p))) (hp : H p = some (.lst xs)) (h : EvK s te σ (offS S H) P) (hz : xs.length ≤ 900)
    (k : ∀ y H', Kp s H H' → Src H' s → H' p = some (.lst xs) → P (offS S H') y → D.nx σ (upd H' p (.lst (xs ++ [y])))) : tDrop (tBM K "list" rAppend (tVar i) (tCons te tNil)) D σ H :=
  ⟨_, hv, .inl ⟨rfl, _, .inl (.inl hp)⟩, h S H f hS hc (Same.refl _) _ fun v H' k' c r => ⟨p, xs, v, rfl, rfl, k' _ _ ne hp, small1000 (by omega), k v H' k' c (k' _ _ ne hp) r⟩⟩
theorem go_newL {i : Nat} (f : Fr S H) (k : ∀ p H', H p = none → Same H H' → Fr (addS S p) H' → H' p = some (.lst []) → u D (σ.set i (some (.ref p))) H') : tSeq (tAsg (tLst tNil) (gName i)) u D σ H :=
  ⟨Nat.zero_le _, fun p hp => by
    have s := same_new (o := .lst []) hp
    exact k p _ hp s ((f.mono s).add upd_same trivial) upd_same⟩
end
theorem src_upd {H : Hp} {s p : Addr} {o : HO} (hs : Src H s) (h : p ≠ s) : Src (upd H p o) s := by
  obtain ⟨a, b, c, e⟩ := hs
  exact ⟨a, b, c, by rw [upd_ne h.symm]; exact e⟩
theorem fr_upd {S : Addr → Bool} {H : Hp} {p : Addr} {xs : List V} (f : Fr (addS S p) H) : Fr (addS S p) (upd H p (.lst xs)) := fun a ha => by
  by_cases e : a = p
  · exact ⟨.lst xs, by rw [e]; exact upd_same, trivial⟩
  · obtain ⟨o, h, m⟩ := f a ha
    exact ⟨o, by rw [upd_ne e]; exact h, m⟩
/-- a list of data at fo, to be changed -/
structure DIv (S : Addr → Bool) (s fo : Addr) (H0 : Hp) (ds : List PyData) (H : Hp) : Prop where
  kp : Kp s H0 H
  src : Src H s
  fr : Fr (addS S fo) H
  f0 : H0 fo = none
  sfo : S fo = false
  ss : S s = true
  at_ : ∃ xs, H fo = some (.lst xs) ∧ RpA (offS (addS S fo) H) xs ds
theorem rpa_setD {H : Hp} {v : V} {d : PyData} : ∀ {xs : List V} {ds : List PyData} (j : Nat), RpA H xs ds → Rp H v d → RpA H (xs.set j v) (ds.set j d)
  | _, _, _, .nil, _ => .nil
  | _, _, 0, .cons _ r, h => .cons h r
  | _, _, j + 1, .cons h r, h2 => .cons h (rpa_setD j r h2)
section
variable {S : Addr → Bool} {s fo : Addr} {H0 H H' : Hp} {ds : List PyData}
theorem DIv.frS (h : DIv S s fo H0 ds H) : Fr S H := fun a ha => h.fr a (by simp [addS, ha])
theorem DIv.ss1 (h : DIv S s fo H0 ds H) : addS S fo s = true := addS_s h.ss
theorem DIv.ns (h : DIv S s fo H0 ds H) : fo ≠ s := fun z => by
  have a := h.sfo
  rw [z, h.ss] at a
  cases a
theorem DIv.rp (h : DIv S s fo H0 ds H) : Rp (offS S H) (.ref fo) (.list ds) := by
  obtain ⟨xs, e, r⟩ := h.at_
  exact .lst (by rw [offS_at h.sfo]; exact e) (r.mono addS_off)
theorem DIv.step (h : DIv S s fo H0 ds H) (k : Kp s H H') (c : Src H' s) : DIv S s fo H0 ds H' := by
  obtain ⟨xs, e, r⟩ := h.at_
  exact ⟨h.kp.trans k, c, k.fr c h.fr, h.f0, h.sfo, h.ss, xs, k _ _ h.ns e, r.mono (k.off h.ss1)⟩
theorem DIv.same (h : DIv S s fo H0 ds H) (k : Same H H') : DIv S s fo H0 ds H' := h.step (.of k) (src_same h.src k)
theorem DIv.upd (h : DIv S s fo H0 ds H) {xs : List V} {cs : List PyData} (r : RpA (offS (addS S fo) H) xs cs) : DIv S s fo H0 cs (upd H fo (.lst xs)) := by
  refine ⟨fun b o hb e => ?_, src_upd h.src h.ns, fr_upd h.fr, h.f0, h.sfo, h.ss, xs, upd_same, r.mono addS_upd⟩
  rw [upd_ne (fun z => by rw [z, h.f0] at e; cases e)]
  exact h.kp b o hb e
end
theorem ro_hid {S S' : Addr → Bool} {H : Hp} {v : V} {c : Ro} (f : Fr S' H) (r : Rp (offS S H) v (roD c)) : Rp (offS S' H) v (roD c) := by
  obtain ⟨p, xs, rfl, hp, rx⟩ := rp_tup r
  refine .tup (by rw [offS_at (f.imm hp (by simp [MutO]))]; exact hp) ?_
  cases rx with
  | cons h1 rx =>
    cases h1
    cases rx with
    | cons h1 rx =>
      cases h1
      cases rx with
      | cons h1 rx =>
        cases h1
        cases rx with
        | cons h1 rx =>
          cases h1
          cases rx
          exact .cons (.str _) (.cons (.int _) (.cons (.int _) (.cons (.int _) .nil)))
end Q

set_option maxHeartbeats 1000000
namespace Ca
open PySem PySem.Spec PyProof.Rows L2
/-! x in y, x not in y: y a list or a tuple of data -/
def rMem (K : PySem.W.Frag) (neg : Bool) : R2 := fun x y H Q => ∃ d ds, Dp K H x d ∧ (Dp K H y (.list ds) ∨ Dp K H y (.tuple ds)) ∧ SeqAt.shaped d = true ∧ SeqAt.shaped (.list ds) = true ∧ Q (.bl ((ds.any fun z => PyData.eqv z d) != neg)) H
theorem op_mem {X : Cx} (hu : X.A.units + 65 < cLine) : OpR X (compareOp .In) (rMem X.K false) := fun _ _ _ H x y v u _ inv rx ry ⟨e, es, he, hes, shE, shS, go⟩ => by
  obtain ⟨_, readE⟩ := Dp.reads inv e x v he rx
  have layE := SeqAt.canLay_of_shaped shE
  have layS := SeqAt.canLay_of_shaped shS
  rw [Bool.bne_false] at go
  cases hes with
  | inl hes =>
    obtain ⟨_, readS⟩ := Dp.reads inv (.list es) y u hes ry
    exact SeqAt.in_list_reads readS readE layS layE (room_in_shaped shE hu) ⟨.bl _, H, inv, rfl, go⟩
  | inr hes =>
    obtain ⟨_, readS⟩ := Dp.reads inv (.tuple es) y u hes ry
    exact SeqAt.in_tuple_reads readS readE layS layE (room_in_shaped shE hu) ⟨.bl _, H, inv, rfl, go⟩
theorem op_nmem {X : Cx} (hu : X.A.units + 65 < cLine) : OpR X (compareOp .NotIn) (rMem X.K true) := fun _ _ _ H x y v u _ inv rx ry ⟨e, es, he, hes, shE, shS, go⟩ => by
  obtain ⟨_, readE⟩ := Dp.reads inv e x v he rx
  have layE := SeqAt.canLay_of_shaped shE
  have layS := SeqAt.canLay_of_shaped shS
  rw [Bool.bne_true] at go
  cases hes with
  | inl hes =>
    obtain ⟨_, readS⟩ := Dp.reads inv (.list es) y u hes ry
    exact SeqAt.notIn_list_reads readS readE layS layE (room_in_shaped shE hu) ⟨.bl _, H, inv, rfl, go⟩
  | inr hes =>
    obtain ⟨_, readS⟩ := Dp.reads inv (.tuple es) y u hes ry
    exact SeqAt.notIn_tuple_reads readS readE layS layE (room_in_shaped shE hu) ⟨.bl _, H, inv, rfl, go⟩
section
variable {K : PySem.W.Frag} {σ : L2.St} {F : Hp} {ta tb : TE} {d : PyData} {ds : List PyData} {neg : Bool}
theorem e_memL (ha : EvD ta σ F d) (hb : EvD tb σ F (.list ds)) (h1 : eqOk d = true) (h2 : eqOk (.list ds) = true) : EvD (tOp (rMem K neg) ta tb) σ F (.bool ((ds.any fun z => PyData.eqv z d) != neg)) := e_op ha hb fun S H x y f rx ry Q q => by
  unfold eqOk at h1 h2
  rw [Bool.and_eq_true] at h1 h2
  exact ⟨d, ds, Rp.dp h1.1 (rx.mono offS_same), .inl (Rp.dp h2.1 (ry.mono offS_same)), h1.2, h2.2, q _ H (Same.refl _) (.bl _)⟩
theorem e_memT (ha : EvD ta σ F d) (hb : EvD tb σ F (.tuple ds)) (h1 : eqOk d = true) (h2 : eqOk (.list ds) = true) : EvD (tOp (rMem K neg) ta tb) σ F (.bool ((ds.any fun z => PyData.eqv z d) != neg)) := e_op ha hb fun S H x y f rx ry Q q => by
  unfold eqOk at h1 h2
  rw [Bool.and_eq_true] at h1 h2
  exact ⟨d, ds, Rp.dp h1.1 (rx.mono offS_same), .inr (Rp.dp (by simpa [nd] using h2.1) (ry.mono offS_same)), h1.2, h2.2, q _ H (Same.refl _) (.bl _)⟩
end
end Ca

set_option maxHeartbeats 400000
namespace Ca
open PySem PySem.Spec PyProof.Rows L2 LamX
/-! ### what stays where tables of code objects grow (for data) -/
section
variable {F F' : Hp}
theorem ext_off {S : Addr → Bool} {H H' : Hp} (e : ExtN H H') : ExtN (offS S H) (offS S H') := fun b o h n => by
  have hb : S b = false := by
    cases q : S b with
    | false => rfl
    | true =>
      unfold offS at h
      rw [if_pos q] at h
      cases h
  rw [offS_at hb] at h ⊢
  exact e b o h n
theorem same_ext {H1 H2 H3 : Hp} (s : Same H1 H2) (e : ExtN H2 H3) : ExtN H1 H3 := (ExtN.of s).trans e
mutual
theorem Rp.ext (e : ExtN F F') : ∀ {d : PyData} {v : V}, Rp F v d → Rp F' v d
  | _, _, .non => .non
  | _, _, .bl b => .bl b
  | _, _, .int i => .int i
  | _, _, .str x => .str x
  | _, _, .lst h r => .lst (e _ _ h (fun _ z => nomatch z)) (RpA.ext e r)
  | _, _, .tup h r => .tup (e _ _ h (fun _ z => nomatch z)) (RpA.ext e r)
  | _, _, .dic h => .dic (e _ _ h (fun _ z => nomatch z))
theorem RpA.ext (e : ExtN F F') : ∀ {ds : List PyData} {vs : List V}, RpA F vs ds → RpA F' vs ds
  | _, _, .nil => .nil
  | _, _, .cons h r => .cons (Rp.ext e h) (RpA.ext e r)
end
end
end Ca
namespace Q
open PySem PySem.Spec PyProof.Rows L2 Ca LamX
theorem KT.ext {H H' : Hp} (e : ExtN H H') : KT H H' := fun t ys h => e _ _ h (fun _ z => nomatch z)
theorem TV.ext {F F' : Hp} {C : Addr} {ks : List Ro} {v : V} (e : ExtN F F') (h : TV C ks F v) : TV C ks F' v := by
  obtain ⟨x, dx, o, rfl, h1, r⟩ := h
  exact ⟨x, dx, o, rfl, e _ _ h1 (fun _ z => nomatch z), r.mono (KT.ext e).m⟩
/-! ### books: what they are -/
/-- what a class of books is -/
structure BCl (K : PySem.W.Frag) (C : Addr) : Prop where
  cl : Cls K C
  nH : NoAttr K C "held"
  nW : NoAttr K C "watched"
  nP : NoAttr K C "past"
  nC : NoAttr K C "cap"
def bf (t w : V) (p : Addr) : Option Int → List (PySem.Str × V)
  | none => [("held", t), ("watched", w), ("past", .ref p)]
  | some c => [("held", t), ("watched", w), ("past", .ref p), ("cap", .int c)]
theorem sn1 : ¬ (("held" : PySem.Str) = "watched") := by decide +kernel
theorem sn2 : ¬ (("held" : PySem.Str) = "past") := by decide +kernel
theorem sn3 : ¬ (("held" : PySem.Str) = "cap") := by decide +kernel
theorem sn4 : ¬ (("watched" : PySem.Str) = "past") := by decide +kernel
theorem sn5 : ¬ (("watched" : PySem.Str) = "cap") := by decide +kernel
theorem sn6 : ¬ (("past" : PySem.Str) = "cap") := by decide +kernel
theorem bf_held (t w : V) (p : Addr) (c : Option Int) : (bf t w p c).lookup ("held" : PySem.Str) = some t := by
  cases c <;> rfl
theorem bf_watched (t w : V) (p : Addr) (c : Option Int) : (bf t w p c).lookup ("watched" : PySem.Str) = some w := by
  cases c <;> rfl
theorem bf_past (t w : V) (p : Addr) (c : Option Int) : (bf t w p c).lookup ("past" : PySem.Str) = some (.ref p) := by
  cases c <;> rfl
theorem bf_cap (t w : V) (p : Addr) (c : Int) : (bf t w p (some c)).lookup ("cap" : PySem.Str) = some (.int c) := rfl
theorem bf_len (t w : V) (p : Addr) (c : Option Int) : (bf t w p c).length < 1000 := by
  cases c
  · show 3 < 1000
    decide
  · show 4 < 1000
    decide
theorem bf_no (t w : V) (p : Addr) (c : Option Int) {m : PySem.Str} (h : (m == "held") = false ∧ (m == "watched") = false ∧ (m == "past") = false ∧ (m == "cap") = false) : (bf t w p c).lookup m = none := by
  obtain ⟨h1, h2, h3, h4⟩ := h
  cases c <;> simp [bf, List.lookup, h1, h2, h3, h4]
theorem bf_setH (t w u : V) (p : Addr) (c : Option Int) : putF "held" u (bf t w p c) = bf u w p c := by
  cases c <;> simp [bf, putF]
theorem bf_setW (t w u : V) (p : Addr) (c : Option Int) : putF "watched" u (bf t w p c) = bf t u p c := by
  cases c <;> simp [bf, putF, sn1]
theorem bf_setP (t w : V) (p q : Addr) (c : Option Int) : putF "past" (.ref q) (bf t w p c) = bf t w q c := by
  cases c <;> simp [bf, putF, sn2, sn4]
theorem bf_setC (t w : V) (p : Addr) (c : Int) : putF "cap" (.int c) (bf t w p none) = bf t w p (some c) := by
  simp [bf, putF, sn3, sn5, sn6]
def bf1 (t : V) : List (PySem.Str × V) := [("held", t)]
def bf2 (t w : V) : List (PySem.Str × V) := [("held", t), ("watched", w)]
theorem bf_new1 (t : V) : putF "held" t [] = bf1 t := rfl
theorem bf_new2 (t w : V) : putF "watched" w (bf1 t) = bf2 t w := by simp [bf1, bf2, putF, sn1]
theorem bf_new3 (t w : V) (p : Addr) : putF "past" (.ref p) (bf2 t w) = bf t w p none := by simp [bf, bf2, putF, sn2, sn4]
theorem bf_mut (t w : V) (p : Addr) (c : Option Int) (C dx : Addr) : MutO (.ins C dx (bf t w p c)) := by
  show ((bf t w p c).lookup ("held" : PySem.Str)).isSome = true
  rw [bf_held]
  rfl
/-- a table's rows -/
structure GoodT (ks : List Ro) : Prop where
  a : AreR (ks.map roD)
  s : srtD (ks.map roD) = ks.map roD
structure BSt (α : Type) where
  ks : List Ro
  qs : List α
section
variable {α : Type}
/-- what a question's value is: grows with the heap -/
structure QMon (QP : α → Hp → V → Prop) : Prop where
  e : ∀ q F F' v, ExtN F F' → QP q F v → QP q F' v
theorem QMon.m {QP : α → Hp → V → Prop} (m : QMon QP) (q : α) : Mon (QP q) := fun F F' v s h => m.e q F F' v (.of s) h
def WV (QP : α → Hp → V → Prop) (qs : List α) (F : Hp) (v : V) : Prop := ∃ a ys, v = .ref a ∧ F a = some (.tup ys) ∧ Paired (fun q y => QP q F y) qs ys
def PV (CT : Addr) (QP : α → Hp → V → Prop) (s : BSt α) (F : Hp) (v : V) : Prop := ∃ a t w, v = .ref a ∧ F a = some (.tup [t, w]) ∧ TV CT s.ks F t ∧ WV QP s.qs F w
variable {QP : α → Hp → V → Prop} {F F' : Hp} {v : V}
theorem WV.ext (m : QMon QP) {qs : List α} (e : ExtN F F') (h : WV QP qs F v) : WV QP qs F' v := by
  obtain ⟨a, ys, rfl, h1, h2⟩ := h
  exact ⟨a, ys, rfl, e _ _ h1 (fun _ z => nomatch z), Paired.mapP h2 fun q y z => m.e q _ _ _ e z⟩
theorem PV.ext (m : QMon QP) {CT : Addr} {s : BSt α} (e : ExtN F F') (h : PV CT QP s F v) : PV CT QP s F' v := by
  obtain ⟨a, t, w, rfl, h1, h2, h3⟩ := h
  exact ⟨a, t, w, rfl, e _ _ h1 (fun _ z => nomatch z), h2.ext e, h3.ext m e⟩
theorem mon_wv (m : QMon QP) {qs : List α} : Mon (WV QP qs) := fun _ _ _ s h => h.ext m (.of s)
theorem mon_tv {C : Addr} {ks : List Ro} : Mon (TV C ks) := fun _ _ _ s h => h.mono s
/-- a book that is only read -/
structure BV (CT CB : Addr) (QP : α → Hp → V → Prop) (b p : Addr) (cap : Option Int) (st : BSt α) (n : Nat) (F : Hp) (v : V) : Prop where
  e : v = .ref b
  ex : ∃ dx t w xs, F b = some (.ins CB dx (bf t w p cap)) ∧ F p = some (.lst xs) ∧ xs.length = n ∧ TV CT st.ks F t ∧ WV QP st.qs F w
  g : GoodT st.ks
theorem BV.mono (m : QMon QP) {CT CB b p : Addr} {cap : Option Int} {st : BSt α} {n : Nat} (s : Same F F') (h : BV CT CB QP b p cap st n F v) : BV CT CB QP b p cap st n F' v := by
  obtain ⟨dx, t, w, xs, h1, h2, h3, h4, h5⟩ := h.ex
  exact ⟨h.e, ⟨dx, t, w, xs, s _ _ h1, s _ _ h2, h3, h4.mono s, h5.ext m (.of s)⟩, h.g⟩
/-- a book that may change -/
structure BD (CT CB : Addr) (QP : α → Hp → V → Prop) (S : Addr → Bool) (b p : Addr) (cap : Option Int) (st : BSt α) (past : List (BSt α)) (H : Hp) : Prop where
  ex : ∃ dx t w xs, H b = some (.ins CB dx (bf t w p cap)) ∧ H p = some (.lst xs) ∧ TV CT st.ks (offS S H) t ∧ WV QP st.qs (offS S H) w ∧ Paired (fun s x => PV CT QP s (offS S H) x) past xs
  sb : S b = true
  sp : S p = true
  g : ∀ s ∈ st :: past, GoodT s.ks
/-- all but the book is kept -/
def Kb (b p : Addr) (H H' : Hp) : Prop := ∀ x o, x ≠ b → x ≠ p → H x = some o → H' x = some o
theorem Kb.refl (b p : Addr) (H : Hp) : Kb b p H H := fun _ _ _ _ e => e
theorem Kb.trans {b p : Addr} {H H1 H2 : Hp} (h : Kb b p H H1) (k : Kb b p H1 H2) : Kb b p H H2 := fun x o n m e => k x o n m (h x o n m e)
theorem Kb.of {b p : Addr} {H H' : Hp} (s : Same H H') : Kb b p H H' := fun x o _ _ e => s x o e
variable {CT CB b p : Addr} {S : Addr → Bool} {cap : Option Int} {st : BSt α} {past : List (BSt α)} {H H' : Hp}
theorem BD.ne (h : BD CT CB QP S b p cap st past H) : b ≠ p := fun z => by
  obtain ⟨dx, t, w, xs, h1, h2, _⟩ := h.ex
  rw [z, h2] at h1
  cases h1
theorem Kb.off (k : Kb b p H H') (hb : S b = true) (hp : S p = true) : Same (offS S H) (offS S H') := fun x o e => by
  unfold offS at e ⊢
  by_cases hx : S x = true
  · rw [if_pos hx] at e
    cases e
  · rw [if_neg hx] at e ⊢
    exact k x o (fun z => hx (z ▸ hb)) (fun z => hx (z ▸ hp)) e
theorem BD.fr (h : BD CT CB QP S b p cap st past H') (k : Kb b p H H') (f : Fr S H) : Fr S H' := fun a ha => by
  obtain ⟨dx, t, w, xs, h1, h2, _⟩ := h.ex
  by_cases e : a = b
  · rw [e]
    exact ⟨_, h1, bf_mut _ _ _ _ _ _⟩
  · by_cases e2 : a = p
    · rw [e2]
      exact ⟨_, h2, trivial⟩
    · obtain ⟨o, z, m⟩ := f a ha
      exact ⟨o, k a o e e2 z, m⟩
/-- behind what leaves the book alone -/
theorem BD.keep (m : QMon QP) (h : BD CT CB QP S b p cap st past H) (hb : ∀ o, H b = some o → H' b = some o) (hp : ∀ o, H p = some o → H' p = some o) (e : ExtN (offS S H) (offS S H')) : BD CT CB QP S b p cap st past H' := by
  obtain ⟨dx, t, w, xs, h1, h2, h3, h4, h5⟩ := h.ex
  exact ⟨⟨dx, t, w, xs, hb _ h1, hp _ h2, h3.ext e, h4.ext m e, Paired.mapP h5 fun s y z => z.ext m e⟩, h.sb, h.sp, h.g⟩
theorem BD.same (m : QMon QP) (h : BD CT CB QP S b p cap st past H) (s : Same H H') : BD CT CB QP S b p cap st past H' := h.keep m (fun o z => s _ _ z) (fun o z => s _ _ z) (.of (offS_mono s))
theorem BD.kp (m : QMon QP) {s : Addr} (h : BD CT CB QP S b p cap st past H) (hs : S s = true) (n1 : b ≠ s) (n2 : p ≠ s) (k : Kp s H H') : BD CT CB QP S b p cap st past H' := h.keep m (fun o z => k _ _ n1 z) (fun o z => k _ _ n2 z) (.of (k.off hs))
/-- without the book among what may change -/
def subS (S : Addr → Bool) (b p : Addr) : Addr → Bool := fun a => if a = b then false else if a = p then false else S a
theorem subS_fr (f : Fr S H) : Fr (subS S b p) H := fun a ha => by
  unfold subS at ha
  split at ha
  · cases ha
  · split at ha
    · cases ha
    · exact f a ha
theorem subS_off : Same (offS S H) (offS (subS S b p) H) := fun x o e => by
  unfold offS at e ⊢
  by_cases hx : S x = true
  · rw [if_pos hx] at e
    cases e
  · rw [if_neg hx] at e
    have : ¬ subS S b p x = true := fun z => hx (by
      unfold subS at z
      split at z
      · cases z
      · split at z
        · cases z
        · exact z)
    rw [if_neg this]
    exact e
theorem subS_b : subS S b p b = false := by
  unfold subS
  rw [if_pos rfl]
theorem subS_p : subS S b p p = false := by
  unfold subS
  split
  · rfl
  · rw [if_pos rfl]
theorem paired_len {γ δ : Type} {R : γ → δ → Prop} : ∀ {l : List γ} {m : List δ}, Paired R l m → m.length = l.length := fun h => (Paired.length h).symm
theorem BD.read (m : QMon QP) (h : BD CT CB QP S b p cap st past H) : BV CT CB QP b p cap st past.length (offS (subS S b p) H) (.ref b) := by
  obtain ⟨dx, t, w, xs, h1, h2, h3, h4, h5⟩ := h.ex
  exact ⟨rfl, ⟨dx, t, w, xs, by rw [offS_at subS_b]; exact h1, by rw [offS_at subS_p]; exact h2, paired_len h5, h3.mono subS_off, h4.ext m (.of subS_off)⟩, h.g _ (.head _)⟩
end
end Q

set_option maxHeartbeats 1000000
namespace Q
open PySem PySem.Spec PyProof.Rows L2 Ca
theorem room65 {k : Nat} {A : Around} (r : Room k A) : A.units + 65 < cLine := by
  have := r.un
  omega
/-! ### check_put -/
abbrev s_ckp : Stmt := top 42
abbrev n_ckp : List PySem.Str := ["kind", "left", "right", "often"]
theorem sc_ckp : FnScope n_ckp ["kind", "left", "right", "often"] (defScope s_ckp) := ⟨rfl, rfl, rfl, by decide +kernel, rfl, by decide +kernel, by decide +kernel⟩
def spCkp (NK NN : Addr) : Sp := fun vs H Q E => ∃ (S : Addr → Bool) (v1 v2 v3 v4 : V) (d1 d2 d3 d4 : PyData), vs = [v1, v2, v3, v4] ∧ Fr S H ∧ RpA (offS S H) [v1, v2, v3, v4] [d1, d2, d3, d4] ∧
  (isTri (.tuple [d1, d2, d3]) 99 = false → ∀ H', Same H H' → E (.ref NK) none H') ∧ (isTri (.tuple [d1, d2, d3]) 99 = true → isNum d4 0 10000 = false → ∀ H', Same H H' → E (.ref NN) none H') ∧
  (isTri (.tuple [d1, d2, d3]) 99 = true → isNum d4 0 10000 = true → ∀ H', Same H H' → Q .non H')
section
variable {P : Program} {w : World} {K : PySem.W.Frag} {mg : PySem.Str → Option Value} {base : Heap}
theorem ok_ckp {f NK NN : Addr} {fd : FuncData} (F : FnP K "check_put" s_ckp f fd) (XK : XT K mg "NoKey" NK) (XN : XT K mg "NoNumber" NN) (gO : ∃ t, mg "MOST_OFTEN" = some (.int 10000 t)) (D1 : Fd P w K mg base "is_key" 3 ["thing"] (spR RKey)) (D2 : Fd P w K mg base "is_number" 1 ["thing", "least", "most"] (spR RNum)) :
    FnOk P w K mg base (L2.CX P w) 4 f fd ["kind", "left", "right", "often"] (spCkp NK NN) := by
  obtain ⟨f1, fd1, G1, b1, k1, m1⟩ := D1.ex
  obtain ⟨f2, fd2, G2, b2, k2, m2⟩ := D2.ex
  obtain ⟨tO, gO⟩ := gO
  refine F.ok sc_ckp (fun vs H Q E h => ?_) (fun cdv A outer s H vs Q E hr h => ?_)
  · obtain ⟨S, v1, v2, v3, v4, d1, d2, d3, d4, rfl, _⟩ := h
    rfl
  obtain ⟨S, v1, v2, v3, v4, d1, d2, d3, d4, rfl, fr, ra, kK, kN, kQ⟩ := h
  obtain ⟨r1, r2, r3, r4⟩ : Rp (offS S H) v1 d1 ∧ Rp (offS S H) v2 d2 ∧ Rp (offS S H) v3 d3 ∧ Rp (offS S H) v4 d4 := by
    cases ra with
    | cons h1 ra =>
      cases ra with
      | cons h2 ra =>
        cases ra with
        | cons h3 ra =>
          cases ra with
          | cons h4 ra => exact ⟨h1, h2, h3, h4⟩
  refine ⟨_, pss_cons (ps_if (pt_not (pt_val (pe_call G1 (hr.mono (by decide)) rfl m1 k1 b1 .nil pass0 (pa_cons (pe_tup (pa_cons (pv 0) (pa_cons (pv 1) (pa_cons (pv 2) pa_nil)))) pa_nil)))) (pss_one (ps_raise rfl (takes_of rfl rfl rfl rfl) (pmk_own PySem.F.excBase_ValueError XK.xN XK.gN XK.kN (raises_own XK.bN XK.tN) rfl))) pss_nil) (pss_one (ps_if (pt_not (pt_val (pe_call G2 (hr.mono (by decide)) rfl m2 k2 b2 .nil pass0 (pa_cons (pv 3) (pa_cons pe_int (pa_cons (pe_glob (v := .int 10000) rfl gO ⟨_, rfl⟩) pa_nil)))))) (pss_one (ps_raise rfl (takes_of rfl rfl rfl rfl) (pmk_own PySem.F.excBase_ValueError XN.xN XN.gN XN.kN (raises_own XN.bN XN.tN) rfl))) pss_nil)), ?_⟩
  refine go_ifS (b := !isTri (.tuple [d1, d2, d3]) 99) fr (b_not (b_val (e_call (a_cons (e_tup (a_cons (e_var rfl r1) (a_cons (e_var rfl r2) (a_cons (e_var rfl r3) a_nil)))) a_nil) ⟨_, rfl, rfl⟩))) (fun z H1 s1 f1 => kK (by simpa using z) H1 s1) fun z H1 s1 fr1 => ?_
  unfold tNext
  simp only []
  refine go_if (b := !isNum d4 0 10000) fr1 (b_not (b_val (e_call (a_cons (e_var rfl (r4.mono (offS_mono (S := S) s1))) (a_cons e_int (a_cons e_int a_nil))) (show RNum [d4, .int 0, .int 10000] (.bool (isNum d4 0 10000)) from ⟨_, _, _, rfl, rfl⟩)))) (fun z2 H2 s2 f2 => ?_) fun z2 H2 s2 fr2 => ?_
  · exact kN (by simpa using z) (by simpa using z2) H2 (s1.trans s2)
  · exact kQ (by simpa using z) (by simpa using z2) H2 (s1.trans s2)
end
/-! ### table_with -/
abbrev s_tw : Stmt := top 48
abbrev n_tw : List PySem.Str := ["table", "keys", "often", "others", "row", "rows", "kind", "left", "right"]
theorem sc_tw : FnScope n_tw ["table", "keys", "often"] (defScope s_tw) := ⟨rfl, rfl, rfl, by decide +kernel, rfl, by decide +kernel, by decide +kernel⟩
structure Ky where
  k : PySem.Str
  l : Int
  r : Int
  deriving DecidableEq
def kyD (q : Ky) : PyData := .tuple [.str q.k, .int q.l, .int q.r]
structure GoodK (q : Ky) : Prop where
  k : kindOk q.k = true
  l0 : 0 ≤ q.l
  l9 : q.l ≤ 99
  r0 : 0 ≤ q.r
  r9 : q.r ≤ 99
def rowK (a : Ro) : Ky := ⟨a.k, a.l, a.r⟩
def kyR (n : Int) (q : Ky) : Ro := ⟨q.k, q.l, q.r, n⟩
/-- the rows with these keys so often -/
def twR (ks : List Ro) (qs : List Ky) (n : Int) : List Ro := (ks.filter fun a => !decide (rowK a ∈ qs)) ++ if 0 < n then qs.map (kyR n) else []
theorem ky_eqv (q r : Ky) : PyData.eqv (kyD q) (kyD r) = decide (q = r) := by
  rw [Bool.eq_iff_iff, decide_eq_true_eq]
  obtain ⟨a, b, c⟩ := q
  obtain ⟨d, e, f⟩ := r
  unfold kyD
  simp [PyData.eqv, PyData.eqvAll]
theorem ky_any (q : Ky) (qs : List Ky) : ((qs.map kyD).any fun z => PyData.eqv z (kyD q)) = decide (q ∈ qs) := by
  rw [Bool.eq_iff_iff, decide_eq_true_eq, List.any_eq_true]
  constructor
  · rintro ⟨d, hd, e⟩
    obtain ⟨r, hr, rfl⟩ := List.mem_map.mp hd
    rw [ky_eqv, decide_eq_true_eq] at e
    rw [← e]
    exact hr
  · intro h
    exact ⟨_, List.mem_map.mpr ⟨q, h, rfl⟩, by rw [ky_eqv, decide_eq_true_eq]⟩
theorem cq_ky {n : Nat} {q : Ky} (h : kindOk q.k = true) : Cq (n + 1) (kyD q) := cq_key q.l q.r h
theorem cq_kys {n : Nat} {qs : List Ky} (h : ∀ q ∈ qs, kindOk q.k = true) : Cq (n + 2) (.list (qs.map kyD)) := cq_lst fun d hd => by
  obtain ⟨q, hq, rfl⟩ := (List.mem_map (l := qs)).mp hd
  exact cq_ky (h q hq)
theorem rowK_k (a b : Ro) : roK a = roK b ↔ rowK a = rowK b := by
  simp [roK, rowK]
theorem row_of_key (a : Ro) (n : Int) : kyR n (rowK a) = ⟨a.k, a.l, a.r, n⟩ := rfl
theorem nodup_map_inj {α β γ : Type} {f : α → β} {g : α → γ} (h : ∀ a b, f a = f b ↔ g a = g b) : ∀ {l : List α}, (l.map f).Nodup → (l.map g).Nodup
  | [], _ => List.nodup_nil
  | a :: l, nd => by
    rw [List.map_cons, List.nodup_cons] at nd ⊢
    refine ⟨fun hm => nd.1 ?_, nodup_map_inj h nd.2⟩
    obtain ⟨b, hb, e⟩ := (List.mem_map (l := l)).mp hm
    exact List.mem_map.mpr ⟨b, hb, (h b a).mpr e⟩
theorem twR_good {ks : List Ro} {qs : List Ky} {n : Int} (g : ∀ a ∈ ks, GoodR a) (gq : ∀ q ∈ qs, GoodK q) (n9 : n ≤ 10000) : ∀ a ∈ twR ks qs n, GoodR a := fun a ha => by
  unfold twR at ha
  rcases List.mem_append.mp ha with z | z
  · exact g a (List.mem_filter.mp z).1
  · by_cases h : 0 < n
    · rw [if_pos h] at z
      obtain ⟨q, hq, rfl⟩ := List.mem_map.mp z
      have := gq q hq
      exact ⟨this.k, this.l0, this.l9, this.r0, this.r9, by show 1 ≤ n; omega, n9⟩
    · rw [if_neg h] at z
      cases z
theorem twR_nd {ks : List Ro} {qs : List Ky} {n : Int} (nd : (ks.map roK).Nodup) (nq : qs.Nodup) : ((twR ks qs n).map roK).Nodup := by
  refine nodup_map_inj (f := rowK) (fun a b => (rowK_k a b).symm) ?_
  have nd : (ks.map rowK).Nodup := nodup_map_inj (fun a b => rowK_k a b) nd
  unfold twR
  rw [List.map_append, List.nodup_append]
  refine ⟨nd.sublist (List.Sublist.map _ List.filter_sublist), ?_, fun x hx y hy e => ?_⟩
  · split
    · rw [List.map_map]
      have : (rowK ∘ kyR n) = id := rfl
      rw [this, List.map_id]
      exact nq
    · exact List.nodup_nil
  · subst e
    obtain ⟨a, ha, rfl⟩ := List.mem_map.mp hx
    have h1 := (List.mem_filter.mp ha).2
    split at hy
    · rw [List.map_map, show (rowK ∘ kyR n) = id from rfl, List.map_id] at hy
      simp [hy] at h1
    · cases hy
theorem twR_are {ks : List Ro} {qs : List Ky} {n : Int} (h : AreR (ks.map roD)) (gq : ∀ q ∈ qs, GoodK q) (nq : qs.Nodup) (n9 : n ≤ 10000) : AreR ((twR ks qs n).map roD) ↔ (twR ks qs n).length ≤ 12 := by
  obtain ⟨g, _, nd⟩ := are_good h
  constructor
  · intro h2
    exact (are_good h2).2.1
  · intro l
    exact are_of (twR_good g gq n9) l (twR_nd nd nq)
theorem twR_len {ks : List Ro} {qs : List Ky} {n : Int} (l : ks.length ≤ 12) : (twR ks qs n).length ≤ 12 + qs.length := by
  unfold twR
  rw [List.length_append]
  have := List.length_filter_le (fun a => !decide (rowK a ∈ qs)) ks
  split
  · rw [List.length_map]
    omega
  · rw [List.length_nil]
    omega
def spTw (C NX : Addr) : Sp := fun vs H Q E => ∃ (S : Addr → Bool) (v vk : V) (ks : List Ro) (qs : List Ky) (n : Int), vs = [v, vk, .int n] ∧ Fr S H ∧ TV C ks (offS S H) v ∧ GoodT ks ∧ Rp (offS S H) vk (.list (qs.map kyD)) ∧ qs.length ≤ 12 ∧ (∀ q ∈ qs, GoodK q) ∧ qs.Nodup ∧ 0 ≤ n ∧ n ≤ 10000 ∧
  (12 < (twR ks qs n).length → ∀ H', Same H H' → E (.ref NX) none H') ∧
  ((twR ks qs n).length ≤ 12 → ∀ ms, srtD ((twR ks qs n).map roD) = ms.map roD → ms.Perm (twR ks qs n) → ∀ v H', Same H H' → TV C ms (offS S H') v → Q v H')
theorem filter_lc {α : Type} (b c : α → Bool) (h : ∀ a, b a = c a) (l : List α) : l.filter b = l.filter c := by
  rw [show b = c from funext h]
theorem filter_c {α : Type} (b : Bool) (l : List α) : l.filter (fun _ => b) = if b = true then l else [] := by
  cases b <;> simp
section
variable {P : Program} {w : World} {K : PySem.W.Frag} {mg : PySem.Str → Option Value} {base : Heap}
theorem ok_tw {f C N NX fT pR fA : Addr} {fd fdT fdA : FuncData} (F : FnP K "table_with" s_tw f fd) (T : Tx K mg) (TT2 : TT K mg C N) (GR : FnOk P w K mg base CX0 1 fA fdA ["self"] (spQ (ITRows C))) (bR : Binds K fdA ["self"] []) (hR : PropOf K C "rows" pR fA)
    (GT : FnOk P w K mg base (L2.CX P w) 8 fT fdT ["rows"] (spTwlX C NX)) (bT : Binds K fdT ["rows"] []) (kT : PySem.W.keepIn K (.ref fT) = true) (gT : mg "table_within_limits" = some (.ref fT)) :
    FnOk P w K mg base (L2.CX P w) 9 f fd ["table", "keys", "often"] (spTw C NX) := by
  refine F.ok sc_tw (fun vs H Q E h => ?_) (fun cdv A outer s H vs Q E hr h => ?_)
  · obtain ⟨S, v, vk, ks, qs, n, rfl, _⟩ := h
    rfl
  obtain ⟨S, v, vk, ks, qs, n, rfl, fr, tv, gt, rk, lq, gq, nq, n0, n9, kE, kQ⟩ := h
  have pL := passes_call (X := cxOf (L2.CX P w) P w K mg base n_tw "table_with" (defScope s_tw) f cdv A outer s H E) (takes_of rfl rfl rfl rfl) (E := E) (fun _ _ _ _ h => h)
  refine ⟨_, (pss_cons (ps_setLc (i := 3) (own := [("row", 4)]) (g := gName 4) (by rfl) sc_tw.nd rfl rfl (sw_true rfl rfl rfl (by decide +kernel)) (pi_tupQ (K := K) rfl (pe_prop (pv 0) TT2.cl hR GR (hr.mono (by decide)) bR .nil pass0 rfl)) (blkOk_by (own := [("row", 4)]) (N := n_tw) (sc := (defScope s_tw)) (by decide +kernel)) (fun _ _ _ _ _ => (pg_name (i := 4) sc_tw.nd rfl (Or.inl rfl))) (fun _ _ _ _ _ => (pts_one (pt_cmpR (op_nmem (room65 hr) : OpR _ _ (rMem K true)) (pe_slice (sl_tupA : SlR _ (rSlA K)) (pv 4) po_none (po_some pe_int)) (pv 1) (by rfl)))) (fun _ _ _ _ _ => (pv 4)))
      (pss_cons (ps_setLc (i := 5) (own := [("kind", 6), ("left", 7), ("right", 8)]) (g := gTup K 3 (gCons (gName 6) (gCons (gName 7) (gCons (gName 8) gNil)))) (by rfl) sc_tw.nd rfl rfl (sw_true rfl rfl rfl (by decide +kernel)) (pi_listQ (K := K) rfl (pv 1)) (blkOk_by (own := [("kind", 6), ("left", 7), ("right", 8)]) (N := n_tw) (sc := (defScope s_tw)) (by decide +kernel)) (fun _ _ _ _ _ => (pg_tup (by rfl) (pgs_cons (pg_name (i := 6) sc_tw.nd rfl (Or.inl rfl)) (pgs_cons (pg_name (i := 7) sc_tw.nd rfl (Or.inl rfl)) (pgs_cons (pg_name (i := 8) sc_tw.nd rfl (Or.inl rfl)) pgs_nil))))) (fun _ _ _ _ _ => (pts_one (pt_cmpR op_gt (pv 2) pe_int (nomark _)))) (fun _ _ _ _ _ => (pe_tup (pa_cons (pv 6) (pa_cons (pv 7) (pa_cons (pv 8) (pa_cons (pv 2) pa_nil)))))))
      (pss_one (ps_ret (pe_call GT (hr.mono (by decide)) rfl gT kT bT .nil pL (pa_cons (pe_op op_cat (pv 3) (pv 5)) pa_nil)))))), ?_⟩
  obtain ⟨gk, lk, ndk⟩ := are_good gt.a
  refine go_setS (P := fun H v => Rp H v (.list ((ks.filter fun a => !decide (rowK a ∈ qs)).map roD))) fr (eqD (e_lcT (K := K) (enc := roD) (b := fun a => !decide (rowK a ∈ qs)) (ev := roD) (as := ks) (e_prop (e_varP (P := TV C ks) rfl fun _ sm => tv.mono sm) tv_rows) (by omega) fun a ha x F2 sF r => g_name ⟨rfl, b_test (eqD (e_memL (neg := true) (eqD (e_slT (e_var rfl r) o_none (o_some e_int)) (show _ = kyD (rowK a) from rfl)) (e_var rfl (rk.mono sF)) (cq_ky (n := 0) (gk a ha).k).ok (cq_kys (n := 0) fun q hq => (gq q hq).k).ok) (by rw [ky_any]; cases decide (rowK a ∈ qs) <;> rfl)), fun _ => e_var rfl r⟩) rfl) fun v1 H1 s1 fr1 r1 => ?_
  have rk1 := rk.mono (offS_mono (S := S) s1)
  refine go_setS (P := fun H v => Rp H v (.list ((if 0 < n then qs.map (kyR n) else []).map roD))) fr1 (eqD (e_lcL (K := K) (enc := kyD) (b := fun _ => decide (0 < n)) (ev := fun q => roD (kyR n q)) (as := qs) (e_var rfl rk1) (by omega) fun q hq x F2 sF r => g_tup3 r fun w1 w2 w3 q1 q2 q3 => ⟨rfl, b_test (e_cmp (g := fun i j => decide (j < i)) (e_var rfl (.int _)) e_int), fun _ => e_tup (a_cons (e_var rfl q1) (a_cons (e_var rfl q2) (a_cons (e_var rfl q3) (a_cons (e_var rfl (.int _)) a_nil))))⟩) (by rw [filter_c]; by_cases h : 0 < n <;> simp [h])) fun v2 H2 s2 fr2 r2 => ?_
  have s12 := s1.trans s2
  have e12 : EvD (tOp rCat (tVar 3) (tVar 5)) [some v, some vk, some (.int n), some v1, none, some v2, none, none, none] (offS S H2) (.list ((twR ks qs n).map roD)) := eqD (e_cat (e_var rfl (r1.mono (offS_mono (S := S) s2))) (e_var rfl r2) (by
    have := twR_len (qs := qs) (n := n) lk
    unfold twR at this
    rw [List.length_append] at this
    rw [List.length_map, List.length_map]
    omega)) (by unfold twR; rw [List.map_append])
  have lt := twR_len (qs := qs) (n := n) lk
  refine go_retC1 (P := fun H v => Rp H v (.list ((twR ks qs n).map roD))) fr2 e12 fun v3 H3 s3 r3 => ⟨S, v3, _, decide ((twR ks qs n).length ≤ 12), rfl, fr2.mono s3, r3, by rw [List.length_map]; omega, ?_, fun z H4 s4 => kE (by simpa using z) H4 ((s12.trans s3).trans s4), fun rs ms b e es pm v4 H4 s4 tv4 => ?_⟩
  · rw [decide_eq_true_eq]
    exact (twR_are gt.a gq nq n9).symm
  · have e := roD_inj e
    exact kQ (by simpa using b) ms es (e ▸ pm) v4 H4 ((s12.trans s3).trans s4) tv4
end
end Q

set_option maxHeartbeats 1000000
namespace Q
open PySem PySem.Spec PyProof.Rows L2 Ca
/-! ### a book's parts read -/
section
variable {α : Type} {QP : α → Hp → V → Prop} {K : PySem.W.Frag} {σ : L2.St} {F : Hp} {ta te : TE} {CT CB b p : Addr} {cap : Option Int} {st : BSt α} {n : Nat}
theorem e_bHeld (c : BCl K CB) (h : EvP ta σ F (BV CT CB QP b p cap st n)) : EvP (tFld K ta "held") σ F (TV CT st.ks) := fun S H1 f s Q q => h S H1 f s _ fun v H2 s2 r => by
  obtain ⟨rfl, ⟨dx, t, w, xs, h1, h2, h3, h4, h5⟩, g⟩ := r
  exact ⟨b, CB, dx, _, _, rfl, offS_same _ _ h1, c.cl, c.nH, bf_held _ _ _ _, q _ H2 s2 h4⟩
theorem e_bWatched (c : BCl K CB) (h : EvP ta σ F (BV CT CB QP b p cap st n)) : EvP (tFld K ta "watched") σ F (WV QP st.qs) := fun S H1 f s Q q => h S H1 f s _ fun v H2 s2 r => by
  obtain ⟨rfl, ⟨dx, t, w, xs, h1, h2, h3, h4, h5⟩, g⟩ := r
  exact ⟨b, CB, dx, _, _, rfl, offS_same _ _ h1, c.cl, c.nW, bf_watched _ _ _ _, q _ H2 s2 h5⟩
/-- a list of so many things -/
def LnP (n : Nat) : Hp → V → Prop := fun F v => ∃ a xs, v = .ref a ∧ F a = some (.lst xs) ∧ xs.length = n
theorem e_bPast (c : BCl K CB) (h : EvP ta σ F (BV CT CB QP b p cap st n)) : EvP (tFld K ta "past") σ F (LnP n) := fun S H1 f s Q q => h S H1 f s _ fun v H2 s2 r => by
  obtain ⟨rfl, ⟨dx, t, w, xs, h1, h2, h3, h4, h5⟩, g⟩ := r
  exact ⟨b, CB, dx, _, _, rfl, offS_same _ _ h1, c.cl, c.nP, bf_past _ _ _ _, q _ H2 s2 ⟨p, xs, rfl, h2, h3⟩⟩
theorem e_bCap {cp : Int} (c : BCl K CB) (h : EvP ta σ F (BV CT CB QP b p (some cp) st n)) : EvD (tFld K ta "cap") σ F (.int cp) := fun S H1 f s Q q => h S H1 f s _ fun v H2 s2 r => by
  obtain ⟨rfl, ⟨dx, t, w, xs, h1, h2, h3, h4, h5⟩, g⟩ := r
  exact ⟨b, CB, dx, _, _, rfl, offS_same _ _ h1, c.cl, c.nC, bf_cap _ _ _ _, q _ H2 s2 (.int _)⟩
theorem e_lenLn (h : EvP ta σ F (LnP n)) : EvD (tCB (rLenQ K) (tCons ta tNil)) σ F (.int (n : Int)) := fun S H1 f s Q q => by
  show ta σ H1 fun x H2 => rLenQ K [x] H2 Q
  refine h S H1 f s _ fun v H2 s2 r => ?_
  obtain ⟨a, xs, rfl, h1, rfl⟩ := r
  exact ⟨a, xs, rfl, .inl (.inl (.inl (offS_same _ _ h1))), q _ H2 s2 (.int _)⟩
theorem e_lenTab {ks : List Ro} (h : EvP ta σ F (TV CT ks)) (hz : ks.length ≤ 1000) : EvD (tCB (rLenO CT (spQ (ITLen CT))) (tCons ta tNil)) σ F (.int (ks.length : Int)) := fun S H1 f s Q q => by
  show ta σ H1 fun x H2 => rLenO CT (spQ (ITLen CT)) [x] H2 Q
  refine h S H1 f s _ fun v H2 s2 r => ?_
  obtain ⟨a, dx, o, rfl, ha⟩ := tv_ins r
  refine ⟨a, dx, _, rfl, offS_same _ _ ha, S, _, f.mono s2, ⟨_, ks, rfl, r, rfl⟩, fun v H3 s3 r => ?_⟩
  cases r
  exact ⟨_, rfl, by omega, by omega, q _ H3 (s2.trans s3) (.int _)⟩
end
section
variable {α : Type} (CT CB : Addr) (QP : α → Hp → V → Prop)
def IBTab : Hp → List V → (Hp → V → Prop) → Prop := fun F vs P => ∃ v b p cap st n, vs = [v] ∧ BV CT CB QP b p cap st n F v ∧ P = TV CT st.ks
def IBQs : Hp → List V → (Hp → V → Prop) → Prop := fun F vs P => ∃ v b p cap st n, vs = [v] ∧ BV CT CB QP b p cap st n F v ∧ P = WV QP st.qs
def IBCh : Hp → List V → (Hp → V → Prop) → Prop := fun F vs P => ∃ v b p cap st n, vs = [v] ∧ BV CT CB QP b p cap st n F v ∧ P = fun H v => Rp H v (.int (n : Int))
def IBLen : Hp → List V → (Hp → V → Prop) → Prop := fun F vs P => ∃ v b p cap st n, vs = [v] ∧ BV CT CB QP b p cap st n F v ∧ P = fun H v => Rp H v (.int (st.ks.length : Int))
def IBMost : Hp → List V → (Hp → V → Prop) → Prop := fun F vs P => ∃ v b p cap st n, vs = [v] ∧ BV CT CB QP b p (some cap) st n F v ∧ P = fun H v => Rp H v (.int cap)
def bsay (x : PySem.Str) (n : Nat) : PySem.Str := [x ++ PySem.Str.ofString "(", PySem.Str.ofString (toString (n : Int)), PySem.Str.ofString " rows)"].foldl (· ++ ·) PySem.Str.empty
def IBRep (x : PySem.Str) : Hp → List V → (Hp → V → Prop) → Prop := fun F vs P => ∃ v b p cap st n, vs = [v] ∧ BV CT CB QP b p cap st n F v ∧ P = fun H v => Rp H v (.str (bsay x st.ks.length))
def IBCnt (cnt : α → List Ro → Int) : Hp → List V → (Hp → V → Prop) → Prop := fun F vs P => ∃ v b p cap st n, vs = [v] ∧ BV CT CB QP b p cap st n F v ∧ P = fun H v => Rp H v (.tuple (st.qs.map fun q => .int (cnt q st.ks)))
/-- counts_in -/
def ICin (cnt : α → List Ro → Int) : Hp → List V → (Hp → V → Prop) → Prop := fun F vs P => ∃ v u ks qs, vs = [v, u] ∧ TV CT ks F v ∧ GoodT ks ∧ WV QP qs F u ∧ P = fun H v => Rp H v (.tuple (qs.map fun q => .int (cnt q ks)))
/-- change -/
def spChange : Sp := fun vs H Q _ => ∃ (S : Addr → Bool) (b p : Addr) (cap : Option Int) (st : BSt α) (past : List (BSt α)) (t w : V) (ms : List Ro) (qs : List α), vs = [.ref b, t, w] ∧ Fr S H ∧ BD CT CB QP S b p cap st past H ∧ past.length ≤ 900 ∧ TV CT ms (offS S H) t ∧ GoodT ms ∧ WV QP qs (offS S H) w ∧
  ∀ H', Kb b p H H' → BD CT CB QP S b p cap ⟨ms, qs⟩ (past ++ [st]) H' → Q .non H'
/-- put, but for how often a row may be there: kf tells the keys that are put -/
def spPut (kf : Ky → List Ky) (NK NN NX : Addr) : Sp := fun vs H Q E => ∃ (S : Addr → Bool) (b p : Addr) (cap : Option Int) (st : BSt α) (past : List (BSt α)) (v1 v2 v3 v4 : V) (d1 d2 d3 d4 : PyData), vs = [.ref b, v1, v2, v3, v4] ∧ Fr S H ∧ BD CT CB QP S b p cap st past H ∧ past.length ≤ 900 ∧ RpA (offS S H) [v1, v2, v3, v4] [d1, d2, d3, d4] ∧
  (isTri (.tuple [d1, d2, d3]) 99 = false → ∀ H', Same H H' → E (.ref NK) none H') ∧ (isTri (.tuple [d1, d2, d3]) 99 = true → isNum d4 0 10000 = false → ∀ H', Same H H' → E (.ref NN) none H') ∧
  (∀ (q : Ky) (n : Int), d1 = .str q.k → d2 = .int q.l → d3 = .int q.r → d4 = .int n → GoodK q → 0 ≤ n → n ≤ 10000 →
    (12 < (twR st.ks (kf q) n).length → ∀ H', Same H H' → E (.ref NX) none H') ∧
    ((twR st.ks (kf q) n).length ≤ 12 → ∀ ms, srtD ((twR st.ks (kf q) n).map roD) = ms.map roD → ms.Perm (twR st.ks (kf q) n) → GoodT ms → ∀ H', Kb b p H H' → BD CT CB QP S b p cap ⟨ms, st.qs⟩ (past ++ [st]) H' → Q .non H'))
def spBInit (NT : Addr) : Sp := fun vs H Q E => ∃ (S : Addr → Bool) (x dx : Addr) (v : V) (ks : List Ro) (b : Bool), vs = [.ref x, v] ∧ Fr S H ∧ S x = false ∧ H x = some (.ins CB dx []) ∧ ((b = true ∧ TV CT ks (offS S H) v ∧ GoodT ks) ∨ (b = false ∧ OddV (offS S H) v)) ∧ (b = false → ∀ H', Same H H' → E (.ref NT) none H') ∧
  (b = true → ∀ p H', H p = none → (∀ y o, y ≠ x → H y = some o → H' y = some o) → BD CT CB QP (addS (addS S x) p) x p none ⟨ks, []⟩ [] H' → Q .non H')
end
theorem isTri_is {d1 d2 d3 : PyData} (h : isTri (.tuple [d1, d2, d3]) 99 = true) : ∃ q : Ky, d1 = .str q.k ∧ d2 = .int q.l ∧ d3 = .int q.r ∧ GoodK q := by
  cases d1 with
  | str k =>
    unfold isTri at h
    simp only [Bool.and_eq_true] at h
    obtain ⟨k1, l1, r1⟩ := h
    obtain ⟨i, rfl, a1, a2⟩ := isNum_is l1
    obtain ⟨j, rfl, b1, b2⟩ := isNum_is r1
    exact ⟨⟨k, i, j⟩, rfl, rfl, rfl, ⟨k1, a1, a2, b1, b2⟩⟩
  | _ => cases h
theorem goodT_of {rs ms : List Ro} (h : AreR (rs.map roD)) (e : srtD (rs.map roD) = ms.map roD) (pm : ms.Perm rs) : GoodT ms := ⟨are_perm pm h, srt_idem e⟩
theorem goodT_len {ks : List Ro} (g : GoodT ks) : ks.length ≤ 12 := (are_good g.a).2.1
section
variable {α : Type} {QP : α → Hp → V → Prop} {CT CB : Addr} {S : Addr → Bool} {H H' : Hp} {b p : Addr} {cap : Option Int} {st : BSt α} {past : List (BSt α)}
/-- the change itself -/
theorem bd_change (m : QMon QP) (h : BD CT CB QP S b p cap st past H) (fr : Fr S H) {q dx : Addr} {t0 w0 t w : V} {xs : List V} {ms : List Ro} {qs : List α} (hb : H b = some (.ins CB dx (bf t0 w0 p cap))) (hp : H p = some (.lst xs)) (tv : TV CT ms (offS S H) t) (gm : GoodT ms) (wv : WV QP qs (offS S H) w) (hq : H q = none) :
    Kb b p H (upd (upd (upd H q (.tup [t0, w0])) p (.lst (xs ++ [.ref q]))) b (.ins CB dx (bf t w p cap))) ∧ BD CT CB QP S b p cap ⟨ms, qs⟩ (past ++ [st]) (upd (upd (upd H q (.tup [t0, w0])) p (.lst (xs ++ [.ref q]))) b (.ins CB dx (bf t w p cap))) := by
  have bp := h.ne
  have qb : q ≠ b := fun z => by rw [← z, hq] at hb; cases hb
  have qp : q ≠ p := fun z => by rw [← z, hq] at hp; cases hp
  have kb : Kb b p H (upd (upd (upd H q (.tup [t0, w0])) p (.lst (xs ++ [.ref q]))) b (.ins CB dx (bf t w p cap))) := fun x o n1 n2 e => by
    have n3 : x ≠ q := fun z => by rw [z, hq] at e; cases e
    rw [upd_ne n1, upd_ne n2, upd_ne n3]
    exact e
  have off := kb.off h.sb h.sp
  obtain ⟨dx', t', w', xs', e1, e2, e3, e4, e5⟩ := h.ex
  rw [hb] at e1
  simp only [Option.some.injEq, HO.ins.injEq, true_and] at e1
  obtain ⟨_, ef⟩ := e1
  have et : t0 = t' := by
    have := congrArg (fun l => List.lookup ("held" : PySem.Str) l) ef
    simp only [bf_held] at this
    exact Option.some.inj this
  have ew : w0 = w' := by
    have := congrArg (fun l => List.lookup ("watched" : PySem.Str) l) ef
    simp only [bf_watched] at this
    exact Option.some.inj this
  subst et ew
  rw [hp] at e2
  cases e2
  refine ⟨kb, ⟨dx, t, w, xs ++ [.ref q], upd_same, ?_, tv.mono off, wv.ext m (.of off), ?_⟩, h.sb, h.sp, fun s hs => ?_⟩
  · rw [upd_ne (Ne.symm bp), upd_same]
  · have app : ∀ {l1 : List (BSt α)} {m1 : List V} {l2 : List (BSt α)} {m2 : List V} {R : BSt α → V → Prop}, Paired R l1 m1 → Paired R l2 m2 → Paired R (l1 ++ l2) (m1 ++ m2) := by
      intro l1 m1 l2 m2 R a c
      induction a with
      | nil => exact c
      | cons h _ ih => exact .cons h ih
    refine app (Paired.mapP e5 fun s x z => z.ext m (.of off)) (.cons ⟨q, t0, w0, rfl, ?_, e3.mono off, e4.ext m (.of off)⟩ .nil)
    rw [offS_at (fr.new hq), upd_ne qb, upd_ne qp, upd_same]
  · rcases List.mem_cons.mp hs with z | z
    · rw [z]
      exact gm
    · rcases List.mem_append.mp z with z | z
      · exact h.g s (.tail _ z)
      · rw [List.mem_singleton.mp z]
        exact h.g st (.head _)
end
end Q

set_option maxHeartbeats 1000000
namespace Q
open PySem PySem.Spec PyProof.Rows L2 Ca
/-! ### reading methods of Book -/
abbrev cB : Stmt := top 51
abbrev s_tabB : Stmt := inClass cB 1
abbrev n_tabB : List PySem.Str := ["self"]
theorem sc_tabB : FnScope n_tabB ["self"] (defScope s_tabB) := ⟨rfl, rfl, rfl, by decide +kernel, rfl, by decide +kernel, by decide +kernel⟩
abbrev s_qsB : Stmt := inClass cB 8
abbrev n_qsB : List PySem.Str := ["self"]
theorem sc_qsB : FnScope n_qsB ["self"] (defScope s_qsB) := ⟨rfl, rfl, rfl, by decide +kernel, rfl, by decide +kernel, by decide +kernel⟩
abbrev s_chB : Stmt := inClass cB 10
abbrev n_chB : List PySem.Str := ["self"]
theorem sc_chB : FnScope n_chB ["self"] (defScope s_chB) := ⟨rfl, rfl, rfl, by decide +kernel, rfl, by decide +kernel, by decide +kernel⟩
abbrev s_cntB : Stmt := inClass cB 9
abbrev n_cntB : List PySem.Str := ["self"]
theorem sc_cntB : FnScope n_cntB ["self"] (defScope s_cntB) := ⟨rfl, rfl, rfl, by decide +kernel, rfl, by decide +kernel, by decide +kernel⟩
abbrev s_lenB : Stmt := inClass cB 13
abbrev n_lenB : List PySem.Str := ["self"]
theorem sc_lenB : FnScope n_lenB ["self"] (defScope s_lenB) := ⟨rfl, rfl, rfl, by decide +kernel, rfl, by decide +kernel, by decide +kernel⟩
abbrev s_repB : Stmt := inClass cB 14
abbrev n_repB : List PySem.Str := ["self"]
theorem sc_repB : FnScope n_repB ["self"] (defScope s_repB) := ⟨rfl, rfl, rfl, by decide +kernel, rfl, by decide +kernel, by decide +kernel⟩
section
variable {P : Program} {w : World} {K : PySem.W.Frag} {mg : PySem.Str → Option Value} {base : Heap} {α : Type} {QP : α → Hp → V → Prop}
theorem ok_tabB {f CT CB : Addr} {fd : FuncData} (F : FnM K "table" "Book.table" s_tabB f fd) (c : BCl K CB) (m : QMon QP) : FnOk P w K mg base CX0 1 f fd ["self"] (spQ (IBTab CT CB QP)) := by
  refine F.ok sc_tabB (spQ_len (by rintro _ _ _ ⟨v, b, p, cap, st, n, rfl, _⟩; rfl)) (fun cdv A outer s H vs Q E hr h => ?_)
  obtain ⟨S, P0, fr, ⟨v, b, p, cap, st, n, rfl, bv, rfl⟩, q⟩ := h
  refine ⟨_, PSs.nox (pss_one (ps_ret (pe_fld (pv 0) rfl))), ?_⟩
  exact go_ret (P := TV CT st.ks) fr (e_bHeld c (e_varP (P := BV CT CB QP b p cap st n) rfl fun _ s => bv.mono m s)) q
theorem ok_qsB {f CT CB : Addr} {fd : FuncData} (F : FnM K "questions" "Book.questions" s_qsB f fd) (c : BCl K CB) (m : QMon QP) : FnOk P w K mg base CX0 1 f fd ["self"] (spQ (IBQs CT CB QP)) := by
  refine F.ok sc_qsB (spQ_len (by rintro _ _ _ ⟨v, b, p, cap, st, n, rfl, _⟩; rfl)) (fun cdv A outer s H vs Q E hr h => ?_)
  obtain ⟨S, P0, fr, ⟨v, b, p, cap, st, n, rfl, bv, rfl⟩, q⟩ := h
  refine ⟨_, PSs.nox (pss_one (ps_ret (pe_fld (pv 0) rfl))), ?_⟩
  exact go_ret (P := WV QP st.qs) fr (e_bWatched c (e_varP (P := BV CT CB QP b p cap st n) rfl fun _ s => bv.mono m s)) q
theorem ok_chB {f CT CB : Addr} {fd : FuncData} (F : FnM K "changes" "Book.changes" s_chB f fd) (T : Tx K mg) (c : BCl K CB) (m : QMon QP) : FnOk P w K mg base CX0 1 f fd ["self"] (spQ (IBCh CT CB QP)) := by
  refine F.ok sc_chB (spQ_len (by rintro _ _ _ ⟨v, b, p, cap, st, n, rfl, _⟩; rfl)) (fun cdv A outer s H vs Q E hr h => ?_)
  obtain ⟨S, P0, fr, ⟨v, b, p, cap, st, n, rfl, bv, rfl⟩, q⟩ := h
  refine ⟨_, PSs.nox (pss_one (ps_ret (pe_callB (call_lenQ : CallR _ _ (rLenQ K)) (by rfl) T.len bLen (pa_cons (pe_fld (pv 0) rfl) pa_nil)))), ?_⟩
  exact go_ret (P := fun H v => Rp H v (.int (n : Int))) fr (e_lenLn (e_bPast c (e_varP (P := BV CT CB QP b p cap st n) rfl fun _ s => bv.mono m s))) q
theorem ok_cntB {cnt : α → List Ro → Int} {f CT CB : Addr} {fd : FuncData} (F : FnM K "counts" "Book.counts" s_cntB f fd) (c : BCl K CB) (m : QMon QP) (D1 : Fd P w K mg base "counts_in" 8 ["table", "questions"] (spQ (ICin CT QP cnt))) : FnOk P w K mg base CX0 9 f fd ["self"] (spQ (IBCnt CT CB QP cnt)) := by
  obtain ⟨f1, fd1, G1, b1, k1, m1⟩ := D1.ex
  refine F.ok sc_cntB (spQ_len (by rintro _ _ _ ⟨v, b, p, cap, st, n, rfl, _⟩; rfl)) (fun cdv A outer s H vs Q E hr h => ?_)
  obtain ⟨S, P0, fr, ⟨v, b, p, cap, st, n, rfl, bv, rfl⟩, q⟩ := h
  refine ⟨_, PSs.nox (pss_one (ps_ret (pe_call G1 (hr.mono (by decide)) rfl m1 k1 b1 .nil pass0 (pa_cons (pe_fld (pv 0) rfl) (pa_cons (pe_fld (pv 0) rfl) pa_nil))))), ?_⟩
  have hv : ∀ {F'}, Same (offS S H) F' → EvP (tVar 0) [some v] F' (BV CT CB QP b p cap st n) := fun s => e_varP rfl fun _ s2 => bv.mono m (s.trans s2)
  refine go_ret (P := fun H v => Rp H v (.tuple (st.qs.map fun q => .int (cnt q st.ks)))) fr (e_callQ (ap_cons (e_bHeld c (hv (Same.refl _))) mon_tv (ap_cons (e_bWatched c (hv (Same.refl _))) (mon_wv m) ap_nil)) fun F vs r => ?_) q
  obtain ⟨x, y, rfl, h1, h2⟩ := psa2 r
  exact ⟨x, y, st.ks, st.qs, rfl, h1, bv.g, h2, rfl⟩
theorem ok_lenB {f CT CB N fL : Addr} {fd fdL : FuncData} (F : FnM K "__len__" "Book.__len__" s_lenB f fd) (T : Tx K mg) (c : BCl K CB) (m : QMon QP)
    (hsL : PySem.W.findIn K (.ref CT) "__len__" = some (some (.ref fL))) (hfL : PySem.W.isFn K (.ref fL) = true) (GLen : FnOk P w K mg base CX0 1 fL fdL ["self"] (spQ (ITLen CT))) (bLen2 : Binds K fdL ["self"] []) : FnOk P w K mg base CX0 3 f fd ["self"] (spQ (IBLen CT CB QP)) := by
  refine F.ok sc_lenB (spQ_len (by rintro _ _ _ ⟨v, b, p, cap, st, n, rfl, _⟩; rfl)) (fun cdv A outer s H vs Q E hr h => ?_)
  obtain ⟨S, P0, fr, ⟨v, b, p, cap, st, n, rfl, bv, rfl⟩, q⟩ := h
  refine ⟨_, PSs.nox (pss_one (ps_ret (pe_callB (call_lenO hsL hfL GLen bLen2 (hr.mono (by decide)) : CallR _ _ (rLenO CT (spQ (ITLen CT)))) (by rfl) T.len bLen (pa_cons (pe_fld (pv 0) rfl) pa_nil)))), ?_⟩
  have lk := goodT_len bv.g
  exact go_ret (P := fun H v => Rp H v (.int (st.ks.length : Int))) fr (e_lenTab (e_bHeld c (e_varP (P := BV CT CB QP b p cap st n) rfl fun _ s => bv.mono m s)) (by omega)) q
theorem ok_repB {f CT CB N fL : Addr} {fd fdL : FuncData} (F : FnM K "__repr__" "Book.__repr__" s_repB f fd) (T : Tx K mg) (c : BCl K CB) (m : QMon QP)
    (hsL : PySem.W.findIn K (.ref CT) "__len__" = some (some (.ref fL))) (hfL : PySem.W.isFn K (.ref fL) = true) (GLen : FnOk P w K mg base CX0 1 fL fdL ["self"] (spQ (ITLen CT))) (bLen2 : Binds K fdL ["self"] []) : FnOk P w K mg base CX0 3 f fd ["self"] (spQ (IBRep CT CB QP "Book")) := by
  refine F.ok sc_repB (spQ_len (by rintro _ _ _ ⟨v, b, p, cap, st, n, rfl, _⟩; rfl)) (fun cdv A outer s H vs Q E hr h => ?_)
  obtain ⟨S, P0, fr, ⟨v, b, p, cap, st, n, rfl, bv, rfl⟩, q⟩ := h
  refine ⟨_, PSs.nox (pss_one (ps_ret (pe_joinedQ (.cons pe_str (.cons (pe_fmt (pe_callB (call_lenO hsL hfL GLen bLen2 (hr.mono (by decide)) : CallR _ _ (rLenO CT (spQ (ITLen CT)))) (by rfl) T.len bLen (pa_cons (pe_fld (pv 0) rfl) pa_nil))) (.cons pe_str .nil)))))), ?_⟩
  have lk := goodT_len bv.g
  have small : ∀ n : Nat, n ≤ 12 → ((n : Nat) : Int).natAbs.log2 < 1920 := by decide +kernel
  have lens12 : ∀ n : Nat, n ≤ 12 → lens [("Book" : PySem.Str) ++ PySem.Str.ofString "(", PySem.Str.ofString (toString (n : Int)), PySem.Str.ofString " rows)"] ≤ 1000 := by decide +kernel
  refine go_ret (P := fun H v => Rp H v (.str (bsay "Book" st.ks.length))) fr (e_joined (ys := [("Book" : PySem.Str) ++ PySem.Str.ofString "(", PySem.Str.ofString (toString (st.ks.length : Int)), PySem.Str.ofString " rows)"]) (.cons e_str (.cons (e_fmtI (e_lenTab (e_bHeld c (e_varP (P := BV CT CB QP b p cap st n) rfl fun _ s => bv.mono m s)) (by omega)) (small _ lk)) (.cons e_str .nil))) (lens12 _ lk)) q
end
end Q

set_option maxHeartbeats 1000000
namespace Q
open PySem PySem.Spec PyProof.Rows L2 Ca
/-! ### Book: what changes it -/
abbrev s_bchg : Stmt := inClass cB 3
abbrev n_bchg : List PySem.Str := ["self", "table", "questions"]
theorem sc_bchg : FnScope n_bchg ["self", "table", "questions"] (defScope s_bchg) := ⟨rfl, rfl, rfl, by decide +kernel, rfl, by decide +kernel, by decide +kernel⟩
abbrev s_binit : Stmt := inClass cB 0
abbrev n_binit : List PySem.Str := ["self", "table"]
theorem sc_binit : FnScope n_binit ["self", "table"] (defScope s_binit) := ⟨rfl, rfl, rfl, by decide +kernel, rfl, by decide +kernel, by decide +kernel⟩
abbrev s_bput : Stmt := inClass cB 5
abbrev n_bput : List PySem.Str := ["self", "kind", "left", "right", "often"]
theorem sc_bput : FnScope n_bput ["self", "kind", "left", "right", "often"] (defScope s_bput) := ⟨rfl, rfl, rfl, by decide +kernel, rfl, by decide +kernel, by decide +kernel⟩
abbrev s_bcall : Stmt := inClass cB 6
abbrev n_bcall : List PySem.Str := ["self", "kind", "left", "right", "often"]
theorem sc_bcall : FnScope n_bcall ["self", "kind", "left", "right", "often"] (defScope s_bcall) := ⟨rfl, rfl, rfl, by decide +kernel, rfl, by decide +kernel, by decide +kernel⟩
section
variable {P : Program} {w : World} {K : PySem.W.Frag} {mg : PySem.Str → Option Value} {base : Heap} {α : Type} {QP : α → Hp → V → Prop}
theorem ok_bchg {f CT CB : Addr} {fd : FuncData} (F : FnM K "change" "Book.change" s_bchg f fd) (c : BCl K CB) (m : QMon QP) : FnOk P w K mg base CX0 1 f fd ["self", "table", "questions"] (spChange CT CB QP) := by
  refine F.ok sc_bchg (fun vs H Q E h => ?_) (fun cdv A outer s H vs Q E hr h => ?_)
  · obtain ⟨S, b, p, cap, st, past, t, w, ms, qs, rfl, _⟩ := h
    rfl
  obtain ⟨S, b, p, cap, st, past, t, w, ms, qs, rfl, fr, bd, l9, tv, gm, wv, q⟩ := h
  refine ⟨_, PSs.nox (pss_cons (ps_expr (pe_bm PySem.F.plainAttrs_list PySem.F.slot_list_append PySem.F.type_list_append mt_append (pe_fld (pv 0) rfl) (pa_cons (pe_tup (pa_cons (pe_fld (pv 0) rfl) (pa_cons (pe_fld (pv 0) rfl) pa_nil))) pa_nil)))
    (pss_cons (ps_fld (pv 0) (pv 1) rfl) (pss_one (ps_fld (pv 0) (pv 2) rfl)))), ?_⟩
  obtain ⟨dx, t0, w0, xs, hb, hp, e3, e4, e5⟩ := id bd.ex
  have lx := paired_len e5
  refine ⟨.ref b, rfl, b, CB, dx, _, _, rfl, hb, c.cl, c.nP, bf_past _ _ _ _, .inl ⟨rfl, _, .inl (.inl hp)⟩, ?_⟩
  refine ⟨.ref b, rfl, b, CB, dx, _, _, rfl, hb, c.cl, c.nH, bf_held _ _ _ _, ?_⟩
  refine ⟨.ref b, rfl, b, CB, dx, _, _, rfl, hb, c.cl, c.nW, bf_watched _ _ _ _, ?_⟩
  refine ⟨by show 2 ≤ sizeLine; decide, fun a ha => ?_⟩
  have bp := bd.ne
  have qb : a ≠ b := fun z => by rw [← z, ha] at hb; cases hb
  have qp : a ≠ p := fun z => by rw [← z, ha] at hp; cases hp
  refine ⟨p, xs, .ref a, rfl, rfl, by rw [upd_ne (Ne.symm qp)]; exact hp, small1000 (by omega), ?_⟩
  have hb2 : upd (upd H a (.tup [t0, w0])) p (.lst (xs ++ [.ref a])) b = some (.ins CB dx (bf t0 w0 p cap)) := by rw [upd_ne bp, upd_ne (Ne.symm qb)]; exact hb
  refine ⟨t, rfl, .ref b, rfl, b, CB, dx, _, rfl, hb2, c.cl, c.nH, bf_len _ _ _ _, ?_⟩
  rw [bf_setH]
  refine ⟨w, rfl, .ref b, rfl, b, CB, dx, _, rfl, upd_same, c.cl, c.nW, bf_len _ _ _ _, ?_⟩
  rw [bf_setW, upd_upd]
  obtain ⟨kb, bd2⟩ := bd_change m bd fr hb hp tv gm wv ha
  exact q _ kb bd2
theorem TV.keep {CT x CB dx : Addr} {ks : List Ro} {H H' : Hp} {v : V} (h : TV CT ks H v) (hx : H x = some (.ins CB dx [])) (k : ∀ y o, y ≠ x → H y = some o → H' y = some o) : TV CT ks H' v := by
  obtain ⟨y, dy, o, rfl, h1, r⟩ := h
  have ny : y ≠ x := fun z => by
    rw [z, hx] at h1
    simp [tf, putF] at h1
  exact ⟨y, dy, o, rfl, k _ _ ny h1, r.mono (KT.m fun t ys e => k _ _ (ne_of e hx (fun z => by cases z)) e)⟩
theorem ok_binit {f fC CT CB NT : Addr} {fd fdC : FuncData} (F : FnM K "__init__" "Book.__init__" s_binit f fd) (c : BCl K CB) (m : QMon QP) (GC : FnOk P w K mg base (L2.CX P w) 1 fC fdC ["thing"] (spCk CT NT)) (bC : Binds K fdC ["thing"] []) (kC : PySem.W.keepIn K (.ref fC) = true) (gC : mg "check_table" = some (.ref fC)) :
    FnOk P w K mg base (L2.CX P w) 2 f fd ["self", "table"] (spBInit CT CB QP NT) := by
  refine F.ok sc_binit (fun vs H Q E h => ?_) (fun cdv A outer s H vs Q E hr h => ?_)
  · obtain ⟨S, x, dx, v, ks, b, rfl, _⟩ := h
    rfl
  obtain ⟨S, x, dx, v, ks, b, rfl, fr, sx, hx, hv, kE, kQ⟩ := h
  have pL := passes_call (X := cxOf (L2.CX P w) P w K mg base n_binit "Book.__init__" (defScope s_binit) f cdv A outer s H E) (takes_of rfl rfl rfl rfl) (E := E) (fun _ _ _ _ h => h)
  refine ⟨_, pss_cons (ps_expr (pe_call GC (hr.mono (by decide)) rfl gC kC bC .nil pL (pa_cons (pv 1) pa_nil)))
    (pss_cons (ps_fld (pv 0) (pv 1) rfl) (pss_cons (ps_fld (pv 0) (pe_tup pa_nil) rfl) (pss_one (ps_fld (pv 0) (pe_lst pa_nil) rfl)))), ?_⟩
  refine ⟨v, rfl, S, v, b, rfl, fr, ?_, kE, fun z H1 s1 => ?_⟩
  · rcases hv with ⟨e, tv, g⟩ | ⟨e, od⟩
    · exact .inl ⟨e, ks, tv⟩
    · exact .inr ⟨e, od⟩
  obtain ⟨_, tv, gk⟩ : b = true ∧ TV CT ks (offS S H) v ∧ GoodT ks := by
    rcases hv with h | ⟨e, _⟩
    · exact h
    · rw [e] at z
      cases z
  have hx1 := s1 _ _ hx
  refine ⟨v, rfl, .ref x, rfl, x, CB, dx, _, rfl, hx1, c.cl, c.nH, by decide, ?_⟩
  rw [bf_new1]
  refine ⟨by show 0 ≤ sizeLine; decide, fun a ha => ?_⟩
  have ax : a ≠ x := fun z => by rw [z, upd_same] at ha; cases ha
  have ha1 : H1 a = none := by rw [upd_ne ax] at ha; exact ha
  refine ⟨.ref x, rfl, x, CB, dx, _, rfl, by rw [upd_ne (Ne.symm ax), upd_same], c.cl, c.nW, by show 1 < 1000; decide, ?_⟩
  rw [bf_new2]
  refine ⟨by show 0 ≤ sizeLine; decide, fun p hp => ?_⟩
  have px : p ≠ x := fun z => by rw [z, upd_same] at hp; cases hp
  have pa : p ≠ a := fun z => by rw [z, upd_ne ax, upd_same] at hp; cases hp
  have hp1 : H1 p = none := by rw [upd_ne px, upd_ne pa, upd_ne px] at hp; exact hp
  refine ⟨.ref x, rfl, x, CB, dx, _, rfl, by rw [upd_ne (Ne.symm px), upd_same], c.cl, c.nP, by show 2 < 1000; decide, ?_⟩
  rw [bf_new3]
  have none_of : ∀ {y}, H1 y = none → H y = none := fun {y} e => by
    cases z : H y with
    | none => rfl
    | some o =>
      rw [s1 _ _ z] at e
      cases e
  have keep : ∀ y o, y ≠ x → H y = some o → upd (upd (upd (upd (upd H1 x (.ins CB dx (bf1 v))) a (.tup [])) x (.ins CB dx (bf2 v (.ref a)))) p (.lst [])) x (.ins CB dx (bf v (.ref a) p none)) y = some o := fun y o n e => by
    have e1 := s1 _ _ e
    rw [upd_ne n, upd_ne (ne_of_none e1 hp1), upd_ne n, upd_ne (ne_of_none e1 ha1), upd_ne n]
    exact e1
  have sp0 : S p = false := (fr.mono s1).new hp1
  have sa0 : S a = false := (fr.mono s1).new ha1
  have frx : Fr (addS (addS S x) p) (upd (upd (upd (upd (upd H1 x (.ins CB dx (bf1 v))) a (.tup [])) x (.ins CB dx (bf2 v (.ref a)))) p (.lst [])) x (.ins CB dx (bf v (.ref a) p none))) := fun y hy => by
    by_cases y1 : y = x
    · rw [y1]
      exact ⟨_, upd_same, bf_mut _ _ _ _ _ _⟩
    · by_cases y2 : y = p
      · rw [y2, upd_ne px, upd_same]
        exact ⟨_, rfl, trivial⟩
      · have hs : S y = true := by simpa [addS, y1, y2] using hy
        obtain ⟨o, e, mo⟩ := fr y hs
        exact ⟨o, keep y o y1 e, mo⟩
  refine kQ z p _ (none_of hp1) keep ⟨⟨dx, v, .ref a, [], upd_same, by rw [upd_ne px, upd_same], (TV.keep (tv.mono offS_same) hx keep).off frx, ⟨a, [], rfl, ?_, .nil⟩, .nil⟩, by simp [addS], by simp [addS], fun s hs => ?_⟩
  · rw [offS_at (by simp [addS, sa0, ax, Ne.symm pa]), upd_ne ax, upd_ne (Ne.symm pa), upd_ne ax, upd_same]
  · rw [List.mem_singleton.mp hs]
    exact gk
theorem rpv4 {F : Hp} {v1 v2 v3 v4 : V} {d1 d2 d3 d4 : PyData} (ra : RpA F [v1, v2, v3, v4] [d1, d2, d3, d4]) : Rp F v1 d1 ∧ Rp F v2 d2 ∧ Rp F v3 d3 ∧ Rp F v4 d4 := by
  cases ra with
  | cons h1 ra =>
    cases ra with
    | cons h2 ra =>
      cases ra with
      | cons h3 ra =>
        cases ra with
        | cons h4 ra => exact ⟨h1, h2, h3, h4⟩
/-- put(..) of one's own -/
theorem ok_bput {f fC fT fG CT CB NK NN NX : Addr} {fd fdC fdT fdG : FuncData} (F : FnM K "put" "Book.put" s_bput f fd) (c : BCl K CB) (m : QMon QP)
    (GC : FnOk P w K mg base (L2.CX P w) 4 fC fdC ["kind", "left", "right", "often"] (spCkp NK NN)) (bC : Binds K fdC ["kind", "left", "right", "often"] []) (kC : PySem.W.keepIn K (.ref fC) = true) (gC : mg "check_put" = some (.ref fC))
    (GT : FnOk P w K mg base (L2.CX P w) 9 fT fdT ["table", "keys", "often"] (spTw CT NX)) (bT : Binds K fdT ["table", "keys", "often"] []) (kT : PySem.W.keepIn K (.ref fT) = true) (gT : mg "table_with" = some (.ref fT))
    (MG : Meth K CB "change" fG) (GG : FnOk P w K mg base CX0 1 fG fdG ["self", "table", "questions"] (spChange CT CB QP)) (bG : Binds K fdG ["self", "table", "questions"] []) :
    FnOk P w K mg base (L2.CX P w) 10 f fd ["self", "kind", "left", "right", "often"] (spPut CT CB QP (fun q => [q]) NK NN NX) := by
  refine F.ok sc_bput (fun vs H Q E h => ?_) (fun cdv A outer s H vs Q E hr h => ?_)
  · obtain ⟨S, b, p, cap, st, past, v1, v2, v3, v4, d1, d2, d3, d4, rfl, _⟩ := h
    rfl
  obtain ⟨S, b, p, cap, st, past, v1, v2, v3, v4, d1, d2, d3, d4, rfl, fr, bd, l9, ra, kK, kN, kQ⟩ := h
  have pL := passes_call (X := cxOf (L2.CX P w) P w K mg base n_bput "Book.put" (defScope s_bput) f cdv A outer s H E) (takes_of rfl rfl rfl rfl) (E := E) (fun _ _ _ _ h => h)
  refine ⟨_, pss_cons (ps_expr (pe_call GC (hr.mono (by decide)) rfl gC kC bC .nil pL (pa_cons (pv 1) (pa_cons (pv 2) (pa_cons (pv 3) (pa_cons (pv 4) pa_nil))))))
    (pss_one (ps_expr (pe_meth (pv 0) c.cl MG GG (hr.mono (by decide)) bG .nil pass0 (pa_cons (pe_call GT (hr.mono (by decide)) rfl gT kT bT .nil pL (pa_cons (pe_fld (pv 0) rfl) (pa_cons (pe_lst (pa_cons (pe_tup (pa_cons (pv 1) (pa_cons (pv 2) (pa_cons (pv 3) pa_nil)))) pa_nil)) (pa_cons (pv 4) pa_nil)))) (pa_cons (pe_fld (pv 0) rfl) pa_nil))))), ?_⟩
  refine ⟨v1, rfl, v2, rfl, v3, rfl, v4, rfl, S, v1, v2, v3, v4, d1, d2, d3, d4, rfl, fr, ra, kK, kN, fun z1 z2 H1 s1 => ?_⟩
  obtain ⟨q, rfl, rfl, rfl, gq⟩ := isTri_is z1
  obtain ⟨n, rfl, n0, n9⟩ := isNum_is z2
  obtain ⟨kX, kQ⟩ := kQ q n rfl rfl rfl rfl gq n0 n9
  have bd1 := bd.same m s1
  have fr1 := fr.mono s1
  have bv := bd1.read m
  obtain ⟨dx, t0, w0, xs, hb1, _⟩ := bd1.ex
  obtain ⟨r1, r2, r3, r4⟩ := rpv4 (ra.mono ((offS_mono (S := S) s1).trans (subS_off (b := b) (p := p))))
  refine ⟨.ref b, rfl, b, dx, _, rfl, hb1, bf_no _ _ _ _ (by decide +kernel), ?_⟩
  have hA : EvAP (tCons (tFld K (tVar 0) "held") (tCons (tLst (tCons (tTup (tCons (tVar 1) (tCons (tVar 2) (tCons (tVar 3) tNil)))) tNil)) (tCons (tVar 4) tNil))) [some (.ref b), some v1, some v2, some v3, some v4] (offS (subS S b p) H1) [TV CT st.ks, fun H v => Rp H v (.list [kyD q]), fun H v => Rp H v (.int n)] :=
    ap_cons (e_bHeld c (e_varP rfl fun _ sm => bv.mono m sm)) mon_tv (ap_cons (e_lst (a_cons (e_tup (a_cons (e_var rfl r1) (a_cons (e_var rfl r2) (a_cons (e_var rfl r3) a_nil)))) a_nil)) mon_d (ap_cons (e_var rfl r4) mon_d ap_nil))
  change tCall (spTw CT NX) [] E (tCons _ (tCons _ (tCons (tVar 4) tNil))) _ H1 _
  refine hA (subS S b p) H1 (subS_fr fr1) (Same.refl _) _ fun vs H2 s2 r => ?_
  obtain ⟨x, y, z, rfl, h1, h2, h3⟩ := psa3 r
  cases h3
  refine ⟨subS S b p, x, y, st.ks, [q], n, rfl, subS_fr (fr1.mono s2), h1, bd.g st (.head _), h2, by show 1 ≤ 12; decide, (fun r hr => by rw [List.mem_singleton.mp hr]; exact gq), by simp, n0, n9, fun l H3 s3 => kX l H3 ((s1.trans s2).trans s3), fun l ms es pm v5 H3 s3 tv5 => ?_⟩
  have s13 := s2.trans s3
  have bd3 := bd1.same m s13
  have fr3 := fr1.mono s13
  obtain ⟨dx3, t3, w3, xs3, hb3, hp3, tv3, wv3, _⟩ := id bd3.ex
  refine ⟨.ref b, rfl, b, CB, dx3, _, _, rfl, hb3, c.cl, c.nW, bf_watched _ _ _ _, ?_⟩
  have gm : GoodT ms := goodT_of ((twR_are (bd.g st (.head _)).a (fun r hr => by rw [List.mem_singleton.mp hr]; exact gq) (by simp) n9).mpr l) es pm
  exact ⟨S, b, p, cap, st, past, v5, w3, ms, st.qs, rfl, fr3, bd3, l9, (tv5.mono offS_same).off fr3, gm, wv3, fun H' kb bd' => kQ l ms es pm gm H' ((Kb.of (s1.trans s13)).trans kb) bd'⟩
/-- book(..) -/
theorem ok_bcall {kf : Ky → List Ky} {f fP CT CB NK NN NX : Addr} {fd fdP : FuncData} (F : FnM K "__call__" "Book.__call__" s_bcall f fd) (c : BCl K CB)
    (MP : Meth K CB "put" fP) (GP : FnOk P w K mg base (L2.CX P w) 10 fP fdP ["self", "kind", "left", "right", "often"] (spPut CT CB QP kf NK NN NX)) (bP : Binds K fdP ["self", "kind", "left", "right", "often"] []) :
    FnOk P w K mg base (L2.CX P w) 11 f fd ["self", "kind", "left", "right", "often"] (spPut CT CB QP kf NK NN NX) := by
  refine F.ok sc_bcall (fun vs H Q E h => ?_) (fun cdv A outer s H vs Q E hr h => ?_)
  · obtain ⟨S, b, p, cap, st, past, v1, v2, v3, v4, d1, d2, d3, d4, rfl, _⟩ := h
    rfl
  obtain ⟨S, b, p, cap, st, past, v1, v2, v3, v4, d1, d2, d3, d4, rfl, fr, bd, l9, ra, h⟩ := h
  have pL := passes_call (X := cxOf (L2.CX P w) P w K mg base n_bcall "Book.__call__" (defScope s_bcall) f cdv A outer s H E) (takes_of rfl rfl rfl rfl) (E := E) (fun _ _ _ _ h => h)
  refine ⟨_, pss_one (ps_expr (pe_meth (pv 0) c.cl MP GP (hr.mono (by decide)) bP .nil pL (pa_cons (pv 1) (pa_cons (pv 2) (pa_cons (pv 3) (pa_cons (pv 4) pa_nil)))))), ?_⟩
  obtain ⟨dx, t0, w0, xs, hb, _⟩ := id bd.ex
  exact ⟨.ref b, rfl, b, dx, _, rfl, hb, bf_no _ _ _ _ (by decide +kernel), v1, rfl, v2, rfl, v3, rfl, v4, rfl, S, b, p, cap, st, past, v1, v2, v3, v4, d1, d2, d3, d4, rfl, fr, bd, l9, ra, h⟩
end
end Q

set_option maxHeartbeats 1000000
namespace Q
open PySem PySem.Spec PyProof.Rows L2 Ca
/-! ### rows ascending -/
/-- the rows, ascending -/
noncomputable def srtR (rs : List Ro) : List Ro := (srt_rows rs).choose
theorem srtR_eq (rs : List Ro) : srtD (rs.map roD) = (srtR rs).map roD := (srt_rows rs).choose_spec.1
theorem srtR_perm (rs : List Ro) : (srtR rs).Perm rs := (srt_rows rs).choose_spec.2
theorem srtR_is {rs ms : List Ro} (h : srtD (rs.map roD) = ms.map roD) : ms = srtR rs := roD_inj (h.symm.trans (srtR_eq rs))
theorem srtR_same {rs ts : List Ro} (p : rs.Perm ts) : srtR rs = srtR ts := srt_same p (srtR_eq rs) (srtR_eq ts)
theorem srtR_up (rs : List Ro) : (srtR rs).Pairwise fun a b => roLt b a = false := srt_up rs (srtR_eq rs)
theorem srtR_of_up {rs : List Ro} (h : rs.Pairwise fun a b => roLt b a = false) : srtR rs = rs := up_same (srtR_perm rs) (srtR_up rs) h
theorem srtR_len (rs : List Ro) : (srtR rs).length = rs.length := (srtR_perm rs).length_eq
/-- rows of tables, ascending, each key once -/
structure SRo (m : Nat) (ks : List Ro) : Prop where
  g : ∀ a ∈ ks, GoodR a
  nd : (ks.map roK).Nodup
  up : srtR ks = ks
  l : ks.length ≤ m
theorem SRo.mono {m n : Nat} {ks : List Ro} (h : SRo m ks) (l : m ≤ n) : SRo n ks := ⟨h.g, h.nd, h.up, Nat.le_trans h.l l⟩
theorem SRo.good {ks : List Ro} (h : SRo 12 ks) : GoodT ks := ⟨are_of h.g h.l h.nd, by rw [srtR_eq, h.up]⟩
theorem GoodT.sro {ks : List Ro} (h : GoodT ks) : SRo 12 ks := by
  obtain ⟨g, l, nd⟩ := are_good h.a
  exact ⟨g, nd, (srtR_is h.s).symm, l⟩
theorem sro_nil (m : Nat) : SRo m [] := ⟨(fun a h => by cases h), List.nodup_nil, List.length_eq_zero_iff.mp ((srtR_len []).trans rfl), Nat.zero_le _⟩
theorem sro_srt {m : Nat} {rs : List Ro} (g : ∀ a ∈ rs, GoodR a) (nd : (rs.map roK).Nodup) (l : rs.length ≤ m) : SRo m (srtR rs) :=
  ⟨fun a ha => g a ((srtR_perm rs).mem_iff.mp ha), (((srtR_perm rs).map roK).nodup_iff).mpr nd, srtR_of_up (srtR_up rs), by rw [srtR_len]; exact l⟩
theorem sro_filter {m : Nat} {ks : List Ro} (h : SRo m ks) (f : Ro → Bool) : srtR (ks.filter f) = ks.filter f := srtR_of_up (by
  have := srtR_up ks
  rw [h.up] at this
  exact this.sublist List.filter_sublist)
/-- the rows behind a put -/
noncomputable def putR (ks : List Ro) (qs : List Ky) (n : Int) : List Ro := srtR (twR ks qs n)
theorem putR_len (ks : List Ro) (qs : List Ky) (n : Int) : (putR ks qs n).length = (twR ks qs n).length := srtR_len _
theorem putR_sro {m j : Nat} {ks : List Ro} {qs : List Ky} {n : Int} (h : SRo m ks) (gq : ∀ q ∈ qs, GoodK q) (nq : qs.Nodup) (n9 : n ≤ 10000) (l : (twR ks qs n).length ≤ j) : SRo j (putR ks qs n) := sro_srt (twR_good h.g gq n9) (twR_nd h.nd nq) l
theorem twR_len2 {m : Nat} {ks : List Ro} {qs : List Ky} {n : Int} (l : ks.length ≤ m) : (twR ks qs n).length ≤ m + qs.length := by
  unfold twR
  rw [List.length_append]
  have := List.length_filter_le (fun a => !decide (rowK a ∈ qs)) ks
  split
  · rw [List.length_map]
    omega
  · rw [List.length_nil]
    omega
theorem putR_0 {m : Nat} {ks : List Ro} {q : Ky} {n : Int} (h : SRo m ks) (n0 : ¬ 0 < n) : putR ks [q] n = ks.filter fun a => !decide (rowK a = q) := by
  unfold putR twR
  rw [if_neg n0, List.append_nil]
  rw [sro_filter h]
  exact filter_lc _ _ (fun a => by simp) _
theorem putR_1 {ks : List Ro} {q : Ky} {n : Int} (n0 : 0 < n) : putR ks [q] n = srtR ((ks.filter fun a => !decide (rowK a = q)) ++ [kyR n q]) := by
  unfold putR twR
  rw [if_pos n0, filter_lc (fun a => !decide (rowK a ∈ [q])) (fun a => !decide (rowK a = q)) (fun a => by simp)]
  rfl
def mir (q : Ky) : Ky := ⟨q.k, q.r, q.l⟩
theorem mir_good {q : Ky} (g : GoodK q) : GoodK (mir q) := ⟨g.k, g.r0, g.r9, g.l0, g.l9⟩
/-- the keys that a mirrored book puts -/
noncomputable def kfOf (kind : Nat) (q : Ky) : List Ky := if kind % 2 = 1 then (if q = mir q then [q] else [q, mir q]) else [q]
noncomputable def putB (kind : Nat) (ks : List Ro) (q : Ky) (n : Int) : List Ro := if kind % 2 = 1 then putR (putR ks [q] n) [mir q] n else putR ks [q] n
theorem kf_nd (kind : Nat) (q : Ky) : (kfOf kind q).Nodup := by
  unfold kfOf
  split
  · split
    · simp
    · rename_i h
      simp [h]
  · simp
theorem kf_good {kind : Nat} {q : Ky} (g : GoodK q) : ∀ r ∈ kfOf kind q, GoodK r := fun r hr => by
  unfold kfOf at hr
  split at hr
  · split at hr
    · rw [(List.mem_singleton (b := q)).mp hr]
      exact g
    · rcases List.mem_cons.mp hr with z | z
      · rw [z]
        exact g
      · rw [List.mem_singleton.mp z]
        exact mir_good g
  · rw [(List.mem_singleton (b := q)).mp hr]
    exact g
theorem kf_len (kind : Nat) (q : Ky) : (kfOf kind q).length ≤ 2 := by
  unfold kfOf
  split
  · split <;> simp
  · simp
theorem tw_perm {ks ls : List Ro} {qs : List Ky} {n : Int} (p : ks.Perm ls) : (twR ks qs n).Perm (twR ls qs n) := (p.filter _).append_right _
theorem filter_filter' {α : Type} (p q : α → Bool) (l : List α) : (l.filter p).filter q = l.filter fun a => p a && q a := by
  rw [List.filter_filter]
  exact filter_lc _ _ (fun a => Bool.and_comm _ _) l
/-- both rows put one after the other -/
theorem putB_eq {m : Nat} {ks : List Ro} (h : SRo m ks) (kind : Nat) (q : Ky) (n : Int) : putB kind ks q n = putR ks (kfOf kind q) n := by
  unfold putB kfOf
  split
  · have key : (twR (putR ks [q] n) [mir q] n).Perm (twR ks (if q = mir q then [q] else [q, mir q]) n) := by
      refine (tw_perm (srtR_perm (twR ks [q] n))).trans ?_
      unfold twR
      rw [List.filter_append, filter_filter']
      by_cases e : q = mir q
      · rw [if_pos e, ← e]
        by_cases n0 : 0 < n
        · rw [if_pos n0]
          have z : ([q].map (kyR n)).filter (fun a => !decide (rowK a ∈ [q])) = [] := by simp [rowK, kyR]
          rw [z, List.append_nil, filter_lc _ (fun a => !decide (rowK a ∈ [q])) (fun a => by simp)]
        · rw [if_neg n0]
          simp
      · rw [if_neg e]
        by_cases n0 : 0 < n
        · rw [if_pos n0]
          have ne : ¬ (rowK (kyR n q) = mir q) := e
          have z : ([q].map (kyR n)).filter (fun a => !decide (rowK a ∈ [mir q])) = [kyR n q] := by simp [ne]
          rw [z, if_pos n0, filter_lc _ (fun a => !decide (rowK a ∈ [q, mir q])) (fun a => by simp), List.append_assoc]
          rw [if_pos n0]
          exact List.Perm.refl _
        · simp only [if_neg n0, List.filter_nil, List.append_nil]
          rw [filter_lc _ (fun a => !decide (rowK a ∈ [q, mir q])) (fun a => by simp)]
    exact srtR_same key
  · rfl
theorem twR_permK {ks : List Ro} {qs rs : List Ky} {n : Int} (h : qs.Perm rs) : (twR ks qs n).Perm (twR ks rs n) := by
  unfold twR
  have e : (ks.filter fun a => !decide (rowK a ∈ qs)) = ks.filter fun a => !decide (rowK a ∈ rs) := filter_lc _ _ (fun a => by
    have := h.mem_iff (a := rowK a)
    by_cases z : rowK a ∈ qs
    · rw [decide_eq_true z, decide_eq_true (this.mp z)]
    · rw [decide_eq_false z, decide_eq_false (fun y => z (this.mpr y))]) _
  rw [e]
  refine List.Perm.append_left (t₁ := _) _ ?_
  split
  · exact h.map _
  · exact List.Perm.refl _
end Q

set_option maxHeartbeats 1000000
namespace Ca
open PySem PySem.Spec PyProof.Rows L2
theorem e_chainI {σ : L2.St} {F : Hp} {ta tb tc : TE} {r r' : R2} {i j k : Int} {a b : Bool} (ha : EvD ta σ F (.int i)) (hb : EvD tb σ F (.int j)) (hc : EvD tc σ F (.int k)) (h1 : ∀ H (Q : VK), Q (.bl a) H → r (.int i) (.int j) H Q) (h2 : ∀ H (Q : VK), Q (.bl b) H → r' (.int j) (.int k) H Q) :
    EvD (tChain r r' ta tb tc) σ F (.bool (a && b)) := fun S H1 f s Q q => ha S H1 f s _ fun v H2 s2 r2 => hb S H2 (f.mono s2) (s.trans (offS_mono s2)) _ fun w H3 s3 r3 => by
  cases r2
  cases r3
  refine h1 _ _ ⟨a, rfl, ?_⟩
  cases a with
  | false =>
    exact q _ H3 (s2.trans s3) (.bl _)
  | true =>
    exact hc S H3 ((f.mono s2).mono s3) ((s.trans (offS_mono s2)).trans (offS_mono s3)) _ fun x H4 s4 r4 => by
      cases r4
      exact h2 _ _ (q _ H4 ((s2.trans s3).trans s4) (.bl _))
theorem e_isiK {K : PySem.W.Frag} {σ : L2.St} {F : Hp} {ta : TE} {d : PyData} {n : String} {b : Bool} (k : ∀ _ : Unit, PySem.W.kitOne K (.type (tyD d)) (.type n) = some b) (h : EvD ta σ F d) : EvD (tCB (rIsi K) (tCons ta (tCons (tC (.ty n)) tNil))) σ F (.bool b) := fun S H1 f s Q q => h S H1 f s _ fun v H2 s2 r =>
  ⟨_, _, _, _, _, rfl, .ty _, (r.mono offS_same).ty, k (), q _ H2 s2 (.bl _)⟩
theorem e_modI {σ : L2.St} {F : Hp} {ta tb : TE} {i j : Int} (ha : EvD ta σ F (.int i)) (hb : EvD tb σ F (.int j)) (h : 0 < j) : EvD (tOp (rI (fun _ j => 0 < j) fun i j => .int (i % j)) ta tb) σ F (.int (i % j)) := e_op ha hb fun S H x y f rx ry Q q => by
  cases rx; cases ry
  exact ⟨i, j, rfl, rfl, h, q _ H (Same.refl _) (.int _)⟩
end Ca
namespace Q
open PySem PySem.Spec PyProof.Rows L2 Ca
/-! ### the law's own: rows put, texts, tables -/
abbrev s_ltx : Stmt := top 61
abbrev n_ltx : List PySem.Str := ["_law_listed_here", "_law_row"]
theorem sc_ltx : FnScope n_ltx ["_law_listed_here"] (defScope s_ltx) := ⟨rfl, rfl, rfl, by decide +kernel, rfl, by decide +kernel, by decide +kernel⟩
abbrev s_ltb : Stmt := top 62
abbrev n_ltb : List PySem.Str := ["_law_listed_here"]
theorem sc_ltb : FnScope n_ltb ["_law_listed_here"] (defScope s_ltb) := ⟨rfl, rfl, rfl, by decide +kernel, rfl, by decide +kernel, by decide +kernel⟩
abbrev s_lpu : Stmt := top 64
abbrev n_lpu : List PySem.Str := ["_law_listed_here", "_law_key_here", "_law_many", "_law_found", "_law_row"]
theorem sc_lpu : FnScope n_lpu ["_law_listed_here", "_law_key_here", "_law_many"] (defScope s_lpu) := ⟨rfl, rfl, rfl, by decide +kernel, rfl, by decide +kernel, by decide +kernel⟩
abbrev s_lpb : Stmt := top 65
abbrev n_lpb : List PySem.Str := ["_law_kind", "_law_listed_here", "_law_key_here", "_law_many", "_law_found"]
theorem sc_lpb : FnScope n_lpb ["_law_kind", "_law_listed_here", "_law_key_here", "_law_many"] (defScope s_lpb) := ⟨rfl, rfl, rfl, by decide +kernel, rfl, by decide +kernel, by decide +kernel⟩
def RLtx : List PyData → PyData → Prop := fun ds d => ∃ rs : List Ro, ds = [.list (rs.map roD)] ∧ rs.length ≤ 12 ∧ (∀ a ∈ rs, GoodR a) ∧ d = .str (txr (srtR rs))
def ILtb (C : Addr) : Hp → List V → (Hp → V → Prop) → Prop := fun F vs P => ∃ v rs, vs = [v] ∧ Rp F v (.list (rs.map roD)) ∧ AreR (rs.map roD) ∧ P = TV C (srtR rs)
def RLpu : List PyData → PyData → Prop := fun ds d => ∃ (ks : List Ro) (q : Ky) (n : Int), ds = [.list (ks.map roD), kyD q, .int n] ∧ SRo 20 ks ∧ GoodK q ∧ n ≤ 10000 ∧ d = .list ((putR ks [q] n).map roD)
def RLpb : List PyData → PyData → Prop := fun ds d => ∃ (kind : Nat) (ks : List Ro) (q : Ky) (n : Int), ds = [.int (kind : Int), .list (ks.map roD), kyD q, .int n] ∧ SRo 19 ks ∧ GoodK q ∧ n ≤ 10000 ∧ d = .list ((putB kind ks q n).map roD)
theorem kyD_eqv (a : Ro) (q : Ky) : PyData.eqv (.tuple [.str a.k, .int a.l, .int a.r]) (kyD q) = decide (rowK a = q) := ky_eqv (rowK a) q
section
variable {P : Program} {w : World} {K : PySem.W.Frag} {mg : PySem.Str → Option Value} {base : Heap}
theorem ok_ltx {f : Addr} {fd : FuncData} (F : FnP K "_law_text" s_ltx f fd) (T : Tx K mg) : FnOk P w K mg base CX0 1 f fd ["_law_listed_here"] (spR RLtx) := by
  refine F.ok sc_ltx (spR_len (by rintro _ _ ⟨rs, rfl, _⟩; rfl)) (fun cdv A outer s H vs Q E hr h => ?_)
  obtain ⟨S, ds, d, fr, rA, ⟨rs, rfl, hz, hg, rfl⟩, q⟩ := h
  obtain ⟨v0, rfl, r0⟩ := rpa1 rA
  refine ⟨_, PSs.nox (pss_one (ps_ret (pe_joinQ (K := K) rfl pe_str (pe_lc (own := [("_law_row", 1)]) (g := gName 1) rfl sc_ltx.nd (pi_listQ (K := K) rfl (pe_callB (cr_sortD T.sm hr) (by rfl) T.sorted bSorted (pa_cons (pv 0) pa_nil))) (blkOk_by (own := [("_law_row", 1)]) (N := n_ltx) (sc := (defScope s_ltx)) (by decide +kernel)) (fun _ _ _ _ _ => (pg_name (i := 1) sc_ltx.nd rfl (Or.inl rfl))) (fun _ _ _ _ _ => pts_nil) (fun _ _ _ _ _ => (pe_op op_add_str (pe_joinQ (K := K) rfl pe_str (pe_lst (pa_cons (pe_ix (ix_tup : IxR _ (rIxT K)) (pv 1) pe_int (fun _ _ => rfl)) (pa_cons (pe_callTy call_str_int (by rfl) T.str bStr (pa_cons (pe_ix (ix_tup : IxR _ (rIxT K)) (pv 1) pe_int (fun _ _ => rfl)) pa_nil)) (pa_cons (pe_callTy call_str_int (by rfl) T.str bStr (pa_cons (pe_ix (ix_tup : IxR _ (rIxT K)) (pv 1) pe_int (fun _ _ => rfl)) pa_nil)) (pa_cons (pe_callTy call_str_int (by rfl) T.str bStr (pa_cons (pe_ix (ix_tup : IxR _ (rIxT K)) (pv 1) pe_int (fun _ _ => rfl)) pa_nil)) pa_nil)))))) pe_str)))))), ?_⟩
  have hs := srtR_eq rs
  have gk := srt_good hs hg
  have lk := srtR_len rs
  refine go_ret (P := fun H v => Rp H v (.str (txr (srtR rs)))) fr (eqD (e_joinL e_str (e_lcL (enc := roD) (b := fun _ => true) (ev := fun a => .str (rowT a)) (as := srtR rs) (eqD (e_sortD (e_var rfl r0) (ros_alike rs) (ros_sortable rs) (fun d hd => ?_) (by rw [List.length_map]; omega)) (by rw [hs])) (by omega)
    fun a ha x F2 sF r => g_name ⟨rfl, b_yes, fun _ => e_addS2 (eqD (e_joinL e_str (e_lst (ds := [.str a.k, .str (PySem.Str.ofString (toString a.l)), .str (PySem.Str.ofString (toString a.r)), .str (PySem.Str.ofString (toString a.n))]) (a_cons (e_ixT (n := 0) (e_var rfl r) e_int rfl rfl) (a_cons (e_strI (e_ixT (n := 1) (e_var rfl r) e_int rfl rfl) ?_) (a_cons (e_strI (e_ixT (n := 2) (e_var rfl r) e_int rfl rfl) ?_) (a_cons (e_strI (e_ixT (n := 3) (e_var rfl r) e_int rfl rfl) ?_) a_nil))))) ?_ ?_) (show _ = PyData.str (rowW a) from rfl)) e_str ?_ (rowT_eq a).symm⟩) ?_ ?_) ?_) q
  · obtain ⟨a, _, rfl⟩ := List.mem_map.mp hd
    exact ro_depth a
  · exact log99 (gk a ha).l0 (by have := (gk a ha).l9; omega)
  · exact log99 (gk a ha).r0 (by have := (gk a ha).r9; omega)
  · exact log99 (by have := (gk a ha).n1; omega) (gk a ha).n9
  · intro d hd
    rcases List.mem_cons.mp hd with z | hd
    · exact ⟨_, z⟩
    · rcases List.mem_cons.mp hd with z | hd
      · exact ⟨_, z⟩
      · rcases List.mem_cons.mp hd with z | hd
        · exact ⟨_, z⟩
        · rcases List.mem_cons.mp hd with z | hd
          · exact ⟨_, z⟩
          · cases hd
  · have e1 := rowP_len (gk a ha)
    have e2 : (PySem.Str.ofString " ").length = 1 := by decide +kernel
    unfold lens rowP at e1
    simp only [List.map_cons, List.map_nil, List.sum_cons, List.sum_nil] at e1
    show ([a.k, PySem.Str.ofString (toString a.l), PySem.Str.ofString (toString a.r), PySem.Str.ofString (toString a.n)].map (·.length)).sum + 4 * _ ≤ _
    simp only [List.map_cons, List.map_nil, List.sum_cons, List.sum_nil]
    rw [e2]
    omega
  · have := rowW_len (gk a ha)
    have e2 : (PySem.Str.ofString "\n").length = 1 := by decide +kernel
    rw [e2]
    omega
  · intro d hd
    obtain ⟨e, _, rfl⟩ := List.mem_map.mp hd
    exact ⟨_, rfl⟩
  · rw [filter_yes, List.map_map (g := strD)]
    have e := rows_len gk
    have e1 : (PySem.Str.ofString "").length = 0 := by decide +kernel
    show (((srtR rs).map rowT).map (·.length)).sum + ((srtR rs).map rowT).length * _ ≤ _
    rw [e1]
    omega
  · rw [filter_yes, List.map_map]
    rfl
theorem ok_ltb {f C cR pR gR : Addr} {fd : FuncData} (F : FnP K "_law_table" s_ltb f fd) (gT : mg "Table" = some (.ref C)) (crT : ClX.CRead K C (.type "type")) (cmT : ClX.CMet K C (.type "type") "read" pR gR) (GTRd : FnR P w K mg base CX0 8 gR (spQ (ITRead C))) (D1 : Fd P w K mg base "_law_text" 1 ["_law_listed_here"] (spR RLtx)) :
    FnOk P w K mg base CX0 9 f fd ["_law_listed_here"] (spQ (ILtb C)) := by
  obtain ⟨f_ltx, fd_ltx, G_ltx, b_ltx, k_ltx, m_ltx⟩ := D1.ex
  refine F.ok sc_ltb (spQ_len (by rintro _ _ _ ⟨v, rs, rfl, _⟩; rfl)) (fun cdv A outer s H vs Q E hr h => ?_)
  obtain ⟨S, P0, fr, ⟨v, rs, rfl, r0, hA, rfl⟩, q⟩ := h
  refine ⟨_, PSs.nox (pss_one (ps_ret (ClX.pe_cmeth (pe_glob (v := .ref C) rfl gT rfl) crT cmT GTRd (hr.mono (by decide)) pass0 (pa_cons (pe_call G_ltx (hr.mono (by decide)) rfl m_ltx k_ltx b_ltx .nil pass0 (pa_cons (pv 0) pa_nil)) pa_nil)))), ?_⟩
  obtain ⟨g, l, nd⟩ := are_good hA
  have sk := sro_srt g nd l
  refine go_ret (P := TV C (srtR rs)) fr (e_cmethT (ks := srtR rs) (fun S H1 f s Q q => q _ H1 (Same.refl _) rfl) (e_call (a_cons (e_var rfl r0) a_nil) ⟨rs, rfl, l, g, rfl⟩) sk.good.a sk.g sk.good.s) q
theorem ok_lpu {f : Addr} {fd : FuncData} (F : FnP K "_law_put" s_lpu f fd) (T : Tx K mg) : FnOk P w K mg base CX0 1 f fd ["_law_listed_here", "_law_key_here", "_law_many"] (spR RLpu) := by
  refine F.ok sc_lpu (spR_len (by rintro _ _ ⟨ks, q, n, rfl, _⟩; rfl)) (fun cdv A outer s H vs Q E hr h => ?_)
  obtain ⟨S, ds, d, fr, rA, ⟨ks, ky, n, rfl, sk, gq, n9, rfl⟩, q⟩ := h
  obtain ⟨v0, v1, v2, rfl, r0, r1, r2⟩ := rpa3 rA
  cases r2
  refine ⟨_, PSs.nox (pss_cons (ps_setLc (i := 3) (own := [("_law_row", 4)]) (g := gName 4) (by rfl) sc_lpu.nd rfl rfl (sw_true rfl rfl rfl (by decide +kernel)) (pi_listQ (K := K) rfl (pv 0)) (blkOk_by (own := [("_law_row", 4)]) (N := n_lpu) (sc := (defScope s_lpu)) (by decide +kernel)) (fun _ _ _ _ _ => (pg_name (i := 4) sc_lpu.nd rfl (Or.inl rfl))) (fun _ _ _ _ _ => (pts_one (pt_cmpR (op_neD hr.units : OpR _ _ (rNeD K)) (pe_slice (sl_tupA : SlR _ (rSlA K)) (pv 4) po_none (po_some pe_int)) (pv 1) (nomark _)))) (fun _ _ _ _ _ => (pv 4)))
      (pss_one (ps_ret (pe_ifExp (pt_cmpR op_gt (pv 2) pe_int (nomark _)) (pe_callB (cr_sortD T.sm hr) (by rfl) T.sorted bSorted (pa_cons (pe_op op_cat (pv 3) (pe_lst (pa_cons (pe_op (op_catA : OpR _ _ (rCatA K)) (pv 1) (pe_tup (pa_cons (pv 2) pa_nil))) pa_nil))) pa_nil)) (pv 3))))), ?_⟩
  have lk := sk.l
  refine go_setS (P := fun H v => Rp H v (.list ((ks.filter fun a => !decide (rowK a = ky)).map roD))) fr (eqD (e_lcL (K := K) (enc := roD) (b := fun a => !decide (rowK a = ky)) (ev := roD) (as := ks) (e_var rfl r0) (by omega) fun a ha x F2 sF r => g_name ⟨rfl, b_test (eqD (e_neD (e_slT (e_var rfl r) o_none (o_some e_int)) (e_var rfl (r1.mono sF)) (cq_ky (n := 0) (q := rowK a) (sk.g a ha).k).ok (cq_ky (n := 0) gq.k).ok) (congrArg (fun b => PyData.bool (!b)) (show _ = decide (rowK a = ky) from kyD_eqv a ky))), fun _ => e_var rfl r⟩) rfl) fun v3 H1 s1 fr1 r3 => ?_
  have lf := List.length_filter_le (fun a => !decide (rowK a = ky)) ks
  refine go_ret (P := fun H v => Rp H v (.list ((putR ks [ky] n).map roD))) fr1 (e_ifP (b := decide (0 < n)) (b_test (e_cmp (g := fun i j => decide (j < i)) (e_var rfl (.int _)) e_int)) (fun z => ?_) fun z => ?_) fun v H2 s2 r => q v H2 (s1.trans s2) r
  · have n0 : 0 < n := of_decide_eq_true z
    have e := srtR_eq ((ks.filter fun a => !decide (rowK a = ky)) ++ [kyR n ky])
    rw [putR_1 n0, ← e]
    refine e_sortD (ds := (((ks.filter fun a => !decide (rowK a = ky)) ++ [kyR n ky]).map roD)) (eqD (e_cat (e_var rfl r3) (e_lst (a_cons (e_catT (e_var rfl (r1.mono (offS_mono (S := S) s1))) (e_tup (a_cons (e_var rfl (.int _)) a_nil)) (Nat.le_of_ble_eq_true rfl)) a_nil)) (by rw [List.length_map]; show _ + 1 ≤ _; omega)) (by rw [List.map_append]; rfl)) (ros_alike _) (ros_sortable _) (fun d hd => ?_) (by rw [List.length_map, List.length_append]; show _ + 1 ≤ _; omega)
    obtain ⟨a, _, rfl⟩ := List.mem_map.mp hd
    exact ro_depth a
  · rw [putR_0 sk (of_decide_eq_false z)]
    exact e_var rfl r3
theorem ok_lpb {f : Addr} {fd : FuncData} (F : FnP K "_law_put_both" s_lpb f fd) (D1 : Fd P w K mg base "_law_put" 1 ["_law_listed_here", "_law_key_here", "_law_many"] (spR RLpu)) : FnOk P w K mg base CX0 2 f fd ["_law_kind", "_law_listed_here", "_law_key_here", "_law_many"] (spR RLpb) := by
  obtain ⟨f_lpu, fd_lpu, G_lpu, b_lpu, k_lpu, m_lpu⟩ := D1.ex
  refine F.ok sc_lpb (spR_len (by rintro _ _ ⟨kind, ks, q, n, rfl, _⟩; rfl)) (fun cdv A outer s H vs Q E hr h => ?_)
  obtain ⟨S, ds, d, fr, rA, ⟨kind, ks, ky, n, rfl, sk, gq, n9, rfl⟩, q⟩ := h
  obtain ⟨v0, v1, v2, v3, rfl, r0, r1, r2, r3⟩ := rpa4 rA
  cases r0
  cases r3
  refine ⟨_, PSs.nox (pss_cons (ps_set (i := 4) sc_lpb.nd rfl (.inl rfl) (pe_call G_lpu (hr.mono (by decide)) rfl m_lpu k_lpu b_lpu .nil pass0 (pa_cons (pv 1) (pa_cons (pv 2) (pa_cons (pv 3) pa_nil)))))
      (pss_one (ps_ret (pe_ifExp (pt_cmpR op_eq (pe_op op_mod (pv 0) pe_int) pe_int (nomark _)) (pe_call G_lpu (hr.mono (by decide)) rfl m_lpu k_lpu b_lpu .nil pass0 (pa_cons (pv 4) (pa_cons (pe_tup (pa_cons (pe_ix (ix_tup : IxR _ (rIxT K)) (pv 2) pe_int (fun _ _ => rfl)) (pa_cons (pe_ix (ix_tup : IxR _ (rIxT K)) (pv 2) pe_int (fun _ _ => rfl)) (pa_cons (pe_ix (ix_tup : IxR _ (rIxT K)) (pv 2) pe_int (fun _ _ => rfl)) pa_nil)))) (pa_cons (pv 3) pa_nil)))) (pv 4))))), ?_⟩
  have lt := twR_len2 (qs := [ky]) (n := n) sk.l
  have gq1 : ∀ r ∈ [ky], GoodK r := fun r hr => by rw [List.mem_singleton.mp hr]; exact gq
  refine go_setS (P := fun H v => Rp H v (.list ((putR ks [ky] n).map roD))) fr (e_call (a_cons (e_var rfl r1) (a_cons (e_var rfl r2) (a_cons (e_var rfl (.int _)) a_nil))) ⟨ks, ky, n, rfl, sk.mono (by decide), gq, n9, rfl⟩) fun v4 H1 s1 fr1 r4 => ?_
  have r21 := r2.mono (offS_mono (S := S) s1)
  refine go_ret (P := fun H v => Rp H v (.list ((putB kind ks ky n).map roD))) fr1 (e_ifP (b := decide ((kind : Int) % 2 = 1)) (b_test (e_eqI (e_modI (e_var rfl (.int _)) e_int (by decide)) e_int)) (fun z => ?_) fun z => ?_) fun v H2 s2 r => q v H2 (s1.trans s2) r
  · have k1 : kind % 2 = 1 := by have := of_decide_eq_true z; omega
    unfold putB
    rw [if_pos k1]
    exact e_call (a_cons (e_var rfl r4) (a_cons (e_tup (a_cons (e_ixT (n := 0) (e_var rfl r21) e_int rfl rfl) (a_cons (e_ixT (n := 2) (e_var rfl r21) e_int rfl rfl) (a_cons (e_ixT (n := 1) (e_var rfl r21) e_int rfl rfl) a_nil)))) (a_cons (e_var rfl (.int _)) a_nil))) ⟨_, mir ky, n, rfl, putR_sro sk gq1 (by simp) n9 (by simpa using lt), mir_good gq, n9, rfl⟩
  · have k1 : ¬ kind % 2 = 1 := fun h => by have := of_decide_eq_false z; omega
    unfold putB
    rw [if_neg k1]
    exact e_var rfl r4
end
end Q

set_option maxHeartbeats 1000000
namespace Q
open PySem PySem.Spec PyProof.Rows L2 Ca
/-! ### the law's own: keys and rows drawn -/
abbrev s_lky : Stmt := top 63
abbrev n_lky : List PySem.Str := ["_law_source_here", "_law_top", "_law_found"]
theorem sc_lky : FnScope n_lky ["_law_source_here", "_law_top"] (defScope s_lky) := ⟨rfl, rfl, rfl, by decide +kernel, rfl, by decide +kernel, by decide +kernel⟩
abbrev s_lls : Stmt := top 66
abbrev n_lls : List PySem.Str := ["_law_source_here", "_law_kind", "_law_size", "_law_cap", "_law_found", "_law_top", "_law_turn", "_law_more"]
theorem sc_lls : FnScope n_lls ["_law_source_here", "_law_kind", "_law_size", "_law_cap"] (defScope s_lls) := ⟨rfl, rfl, rfl, by decide +kernel, rfl, by decide +kernel, by decide +kernel⟩
def KyP : Hp → V → Prop := fun F v => ∃ q : Ky, GoodK q ∧ Rp F v (kyD q)
theorem mon_ky : Mon KyP := fun _ _ _ s ⟨q, g, r⟩ => ⟨q, g, r.mono s⟩
section
variable {K : PySem.W.Frag} {s : Addr} {σ : L2.St} {F : Hp} {ta tb te : TE} {tas : TA} {P : Hp → V → Prop} {Ps : List (Hp → V → Prop)} {R : List PyData → PyData → Prop} {E : XK} {S : Addr → Bool} {H : Hp} {D : L2.Ends} {t u t1 t2 : TS} {tt : L2.TT}
theorem e_ixLs {n j : Nat} (h : EvP ta σ F (LsP n P)) (hj : j < n) (mo : Mon P) : EvP (tOp (rIxL K) ta (tC (.int (j : Int)))) σ F P := fun S H1 f sm Q q => h S H1 f sm _ fun v H2 s2 ⟨a, xs, e, h1, l, e1⟩ => by
  subst e
  have hx : j < xs.length := by omega
  exact ⟨a, xs, (j : Int), xs[j], rfl, rfl, .inl (.inl (offS_same _ _ h1)), by simp [L2.atI, L2.ixN, hx], q _ H2 s2 (e1 _ (List.getElem_mem hx))⟩
theorem go_retK (f : Fr S H) (hS : S s = true) (hc : Src H s) (h : EvK s te σ (offS S H) P) (k : ∀ v H', Kp s H H' → Src H' s → P (offS S H') v → D.rt v H') : tRet te D σ H := h S H f hS hc (Same.refl _) _ k
theorem go_ifBD (f : Fr S H) (hS : S s = true) (hc : Src H s) (h : EvBD s tt σ (offS S H)) (k1 : ∀ H', Kp s H H' → Src H' s → Fr S H' → t1 { D with nx := u D } σ H') (k2 : ∀ H', Kp s H H' → Src H' s → Fr S H' → t2 { D with nx := u D } σ H') : tSeq (tIfS tt t1 t2) u D σ H :=
  h S H f hS hc (Same.refl _) _ fun b H' k' c' => by
    cases b with
    | true =>
      rw [if_pos rfl]
      exact k1 H' k' c' (k'.fr c' f)
    | false =>
      rw [if_neg (by decide)]
      exact k2 H' k' c' (k'.fr c' f)
/-- a call of what computes with data, some of it drawn -/
theorem k_callR {DD : PyData → Prop} (h : EvKA s tas σ F Ps) (hR : ∀ F vs, PsA F Ps vs → ∃ ds d, RpA F vs ds ∧ R ds d ∧ DD d) : EvK s (tCall (spR R) [] E tas) σ F (RpP DD) := fun S H1 f hS hc sm Q q =>
  h S H1 f hS hc sm _ fun vs H2 k2 c2 r => by
    obtain ⟨ds, d, ra, hR, hd⟩ := hR _ _ r
    exact ⟨S, ds, d, k2.fr c2 f, by rw [List.append_nil]; exact ra, hR, fun v H3 s3 r3 => q v H3 (k2.trans (.of s3)) (src_same c2 s3) ⟨d, hd, r3⟩⟩
end
theorem int_of {F : Hp} {v : V} {lo hi : Int} (h : IntP lo hi F v) : ∃ z : Int, v = .int z ∧ lo ≤ z ∧ z ≤ hi := h
theorem ky_of {F : Hp} {v : V} (h : TpP [KindP, IntP 0 99, IntP 0 99] F v) : KyP F v := by
  obtain ⟨a, ys, rfl, ha, ps⟩ := h
  obtain ⟨x, y, z, rfl, h1, h2, h3⟩ := psa3 ps
  obtain ⟨k, rfl, hk⟩ := h1
  obtain ⟨l, rfl, l0, l9⟩ := h2
  obtain ⟨r, rfl, r0, r9⟩ := h3
  exact ⟨⟨k, l, r⟩, ⟨hk, l0, l9, r0, r9⟩, .tup ha (.cons (.str _) (.cons (.int _) (.cons (.int _) .nil)))⟩
def spKey : Sp := fun vs H Q _ => ∃ (S : Addr → Bool) (s : Addr) (top : Int), vs = [.ref s, .int top] ∧ Fr S H ∧ S s = true ∧ Src H s ∧ 0 ≤ top ∧ top ≤ 90 ∧ ∀ x H', Kp s H H' → Src H' s → KyP (offS S H') x → Q x H'
theorem k_key {s : Addr} {σ : L2.St} {F : Hp} {te : TE} {E : XK} {i : Nat} (hi : σ[i]? = some (some (.ref s))) (h : EvK s te σ F (IntP 0 90)) : EvK s (tCall spKey [] E (tCons (tVar i) (tCons te tNil))) σ F KyP := fun S H1 f hS hc sm Q q =>
  ⟨_, hi, h S H1 f hS hc sm _ fun v H2 k2 c2 ⟨z, e, z0, z1⟩ => by
    subst e
    exact ⟨S, s, z, rfl, k2.fr c2 f, hS, c2, z0, z1, fun x H3 k3 c3 p => q x H3 (k2.trans k3) c3 p⟩⟩
/-- mirrored rows -/
def Mir (ks : List Ro) : Prop := ∀ a ∈ ks, (⟨a.k, a.r, a.l, a.n⟩ : Ro) ∈ ks
structure Lst (kind m : Nat) (cap : Int) (ks : List Ro) : Prop where
  s : SRo m ks
  c : ∀ a ∈ ks, a.n ≤ cap
  r : kind % 2 = 1 → Mir ks
theorem lst_nil (kind m : Nat) (cap : Int) : Lst kind m cap [] := ⟨sro_nil m, (fun a h => by cases h), fun _ a h => by cases h⟩
theorem mem_put {ks : List Ro} {qs : List Ky} {n : Int} {a : Ro} : a ∈ putR ks qs n ↔ (a ∈ ks ∧ ¬ rowK a ∈ qs) ∨ (0 < n ∧ ∃ q ∈ qs, a = kyR n q) := by
  unfold putR
  rw [(srtR_perm _).mem_iff]
  unfold twR
  rw [List.mem_append, List.mem_filter]
  by_cases n0 : 0 < n
  · rw [if_pos n0]
    constructor
    · rintro (⟨h1, h2⟩ | h)
      · exact .inl ⟨h1, by simpa using h2⟩
      · obtain ⟨q, hq, e⟩ := (List.mem_map (l := qs)).mp h
        exact .inr ⟨n0, q, hq, e.symm⟩
    · rintro (⟨h1, h2⟩ | ⟨_, q, hq, e⟩)
      · exact .inl ⟨h1, by simpa using h2⟩
      · exact .inr (List.mem_map.mpr ⟨q, hq, e.symm⟩)
  · rw [if_neg n0]
    constructor
    · rintro (⟨h1, h2⟩ | h)
      · exact .inl ⟨h1, by simpa using h2⟩
      · cases h
    · rintro (⟨h1, h2⟩ | ⟨h, _⟩)
      · exact .inl ⟨h1, by simpa using h2⟩
      · exact absurd h n0
theorem lst_put {kind m : Nat} {cap : Int} {ks : List Ro} {q : Ky} {n : Int} (h : Lst kind m cap ks) (m12 : m ≤ 12) (gq : GoodK q) (n9 : n ≤ 10000) (nc : n ≤ cap) (l : (putB kind ks q n).length ≤ m) : Lst kind m cap (putB kind ks q n) := by
  rw [putB_eq (h.s.mono (by omega : m ≤ 19))] at l ⊢
  refine ⟨putR_sro h.s (kf_good gq) (kf_nd _ _) n9 (by rw [← putR_len]; exact l), fun a ha => ?_, fun hk a ha => ?_⟩
  · rcases mem_put.mp ha with ⟨h1, _⟩ | ⟨_, r, _, e⟩
    · exact h.c a h1
    · rw [e]
      exact nc
  · have mk : ∀ r : Ky, r ∈ kfOf kind q ↔ mir r ∈ kfOf kind q := fun r => by
      have e1 : mir (mir r) = r := rfl
      unfold kfOf
      rw [if_pos hk]
      split
      · rename_i e
        rw [List.mem_singleton, List.mem_singleton]
        constructor
        · intro z
          rw [z]
          exact e.symm
        · intro z
          rw [← e1, z]
          exact e.symm
      · simp only [List.mem_cons, List.not_mem_nil, or_false]
        constructor
        · rintro (z | z)
          · exact .inr (by rw [z])
          · exact .inl (by rw [z]; rfl)
        · rintro (z | z)
          · exact .inr (by rw [← e1, z])
          · exact .inl (by rw [← e1, z]; rfl)
    rcases mem_put.mp ha with ⟨h1, h2⟩ | ⟨h0, r, hr, e⟩
    · exact mem_put.mpr (.inl ⟨h.r hk a h1, fun z => h2 ((mk _).mpr z)⟩)
    · exact mem_put.mpr (.inr ⟨h0, mir r, (mk r).mp hr, by rw [e]; rfl⟩)
def LstP (kind m : Nat) (cap : Int) : Hp → V → Prop := fun F v => ∃ ks : List Ro, Lst kind m cap ks ∧ Rp F v (.list (ks.map roD))
theorem mon_lst {kind m : Nat} {cap : Int} : Mon (LstP kind m cap) := fun _ _ _ s ⟨ks, l, r⟩ => ⟨ks, l, r.mono s⟩
def spListed : Sp := fun vs H Q _ => ∃ (S : Addr → Bool) (s : Addr) (kind m : Nat) (cap : Int), vs = [.ref s, .int (kind : Int), .int (m : Int), .int cap] ∧ Fr S H ∧ S s = true ∧ Src H s ∧ m ≤ 12 ∧ 1 ≤ cap ∧ cap ≤ 10000 ∧ ∀ x H', Kp s H H' → Src H' s → LstP kind m cap (offS S H') x → Q x H'
section
variable {P : Program} {w : World} {K : PySem.W.Frag} {mg : PySem.Str → Option Value} {base : Heap}
theorem ok_lky {f : Addr} {fd : FuncData} (F : FnP K "_law_key" s_lky f fd) (D_dr : Fd P w K mg base "_law_draw" 1 ["_law_source_here", "_law_many"] spDraw) (D_chl : Fd P w K mg base "_law_choose" 2 ["_law_source_here", "_law_values"] spChoose) : FnOk P w K mg base CX0 3 f fd ["_law_source_here", "_law_top"] spKey := by
  obtain ⟨f_dr, fd_dr, G_dr, b_dr, k_dr, m_dr⟩ := D_dr.ex
  obtain ⟨f_chl, fd_chl, G_chl, b_chl, k_chl, m_chl⟩ := D_chl.ex
  refine F.ok sc_lky (fun vs H Q E h => ?_) (fun cdv A outer s0 H vs Q E hr h => ?_)
  · obtain ⟨S, s, top, rfl, _⟩ := h
    rfl
  obtain ⟨S, s, top, rfl, fr, hS, hc, t0, t9, q⟩ := h
  refine ⟨_, PSs.nox (pss_cons (ps_set (i := 2) sc_lky.nd rfl (.inl rfl) (pe_lst (pa_cons (pe_call G_dr (hr.mono (by decide)) rfl m_dr k_dr b_dr .nil pass0 (pa_cons (pv 0) (pa_cons (pe_op op_add (pv 1) pe_int) pa_nil))) (pa_cons (pe_call G_dr (hr.mono (by decide)) rfl m_dr k_dr b_dr .nil pass0 (pa_cons (pv 0) (pa_cons (pe_op op_add (pv 1) pe_int) pa_nil))) pa_nil))))
      (pss_cons (ps_if (pt_cmpR op_eq (pe_call G_dr (hr.mono (by decide)) rfl m_dr k_dr b_dr .nil pass0 (pa_cons (pv 0) (pa_cons pe_int pa_nil))) pe_int (nomark _)) (pss_one (ps_set (i := 2) sc_lky.nd rfl (.inl rfl) (pe_lst (pa_cons (pe_call G_chl (hr.mono (by decide)) rfl m_chl k_chl b_chl .nil pass0 (pa_cons (pv 0) (pa_cons (pe_lst (pa_cons pe_int (pa_cons pe_int pa_nil))) pa_nil))) (pa_cons (pe_call G_chl (hr.mono (by decide)) rfl m_chl k_chl b_chl .nil pass0 (pa_cons (pv 0) (pa_cons (pe_lst (pa_cons pe_int (pa_cons pe_int (pa_cons (pv 1) pa_nil)))) pa_nil))) pa_nil))))) pss_nil)
      (pss_one (ps_ret (pe_tup (pa_cons (pe_call G_chl (hr.mono (by decide)) rfl m_chl k_chl b_chl .nil pass0 (pa_cons (pv 0) (pa_cons (pe_lst (pa_cons pe_str (pa_cons pe_str (pa_cons pe_str (pa_cons pe_str pa_nil))))) pa_nil))) (pa_cons (pe_ix (ix_list : IxR _ (rIxL K)) (pv 2) pe_int (fun _ _ => rfl)) (pa_cons (pe_ix (ix_list : IxR _ (rIxL K)) (pv 2) pe_int (fun _ _ => rfl)) pa_nil)))))))), ?_⟩
  have kd : EvK s (tCall spDraw [] E0 (tCons (tVar 0) (tCons (tOp (rI0 fun i j => .int (i + j)) (tVar 1) (tC (.int 1))) tNil))) [some (.ref s), some (.int top), none] (offS S H) (IntP 0 99) := (k_draw (m := top + 1) rfl (e_add (e_var rfl (.int _)) e_int) (by omega) (by omega)).weak fun H v ⟨z, e, a, b⟩ => ⟨z, e, a, by omega⟩
  have kk : ∀ {σ : L2.St} {F : Hp}, EvK s (tLst (tCons (tC (.str "A")) (tCons (tC (.str "A")) (tCons (tC (.str "B")) (tCons (tC (.str "C")) tNil))))) σ F (LsP 4 KindP) := k_lst (ka_cons (k_str (by decide +kernel)) mon_kind (ka_cons (k_str (by decide +kernel)) mon_kind (ka_cons (k_str (by decide +kernel)) mon_kind (ka_cons (k_str (by decide +kernel)) mon_kind ka_nil)))) mon_kind (by simp) (by simp)
  have ret : ∀ {v : V} {H' : Hp}, Kp s H H' → Src H' s → Fr S H' → LsP 2 (IntP 0 99) (offS S H') v → tRet (tTup (tCons (tCall spChoose [] E0 (tCons (tVar 0) (tCons (tLst (tCons (tC (.str "A")) (tCons (tC (.str "A")) (tCons (tC (.str "B")) (tCons (tC (.str "C")) tNil))))) tNil))) (tCons (tOp (rIxL K) (tVar 2) (tC (.int 0))) (tCons (tOp (rIxL K) (tVar 2) (tC (.int 1))) tNil)))) { nx := fun _ H' => Q .non H', rt := Q } [some (.ref s), some (.int top), some v] H' := fun {v H'} k' c' f' p =>
    go_retK (P := TpP [KindP, IntP 0 99, IntP 0 99]) f' hS c' (k_tup (ka_cons (k_choose (n := 4) rfl kk mon_kind (by decide) (by decide)) mon_kind (ka_cons (k_of (e_ixLs (n := 2) (j := 0) (e_varP rfl fun _ sm => mon_ls mon_int _ _ _ sm p) (by decide) mon_int)) mon_int (ka_cons (k_of (e_ixLs (n := 2) (j := 1) (e_varP rfl fun _ sm => mon_ls mon_int _ _ _ sm p) (by decide) mon_int)) mon_int ka_nil))) (by simp [mon_kind, mon_int]) (by simp)) fun x H2 k2 c2 p2 => q x H2 (k'.trans k2) c2 (ky_of p2)
  refine go_setK (P := LsP 2 (IntP 0 99)) fr hS hc (k_lst (ka_cons kd mon_int (ka_cons kd mon_int ka_nil)) mon_int (by simp) (by simp)) fun v H1 k1 c1 fr1 p1 => ?_
  refine go_ifBD fr1 hS c1 (bd_eq (k_draw (m := 9) rfl e_int (by decide) (by decide))) (fun H2 k2 c2 fr2 => ?_) fun H2 k2 c2 fr2 => ret (k1.trans k2) c2 fr2 (mon_ls mon_int _ _ _ (k2.off hS) p1)
  have kn : ∀ {F : Hp}, EvK s (tC (.int 99)) [some (.ref s), some (.int top), some v] F (IntP 0 99) := k_int (by decide) (by decide)
  have kz : ∀ {F : Hp}, EvK s (tC (.int 0)) [some (.ref s), some (.int top), some v] F (IntP 0 99) := k_int (by decide) (by decide)
  refine (k_lst (Ps := [IntP 0 99, IntP 0 99]) (P := IntP 0 99) (ka_cons (k_choose (n := 2) rfl (k_lst (Ps := [IntP 0 99, IntP 0 99]) (ka_cons kz mon_int (ka_cons kn mon_int ka_nil)) mon_int (by simp) (by simp)) mon_int (by decide) (by decide)) mon_int (ka_cons (k_choose (n := 3) rfl (k_lst (Ps := [IntP 0 99, IntP 0 99, IntP 0 99]) (ka_cons kz mon_int (ka_cons kn mon_int (ka_cons (k_varI (z := top) rfl (by omega) (by omega)) mon_int ka_nil))) mon_int (by simp) (by simp)) mon_int (by decide) (by decide)) mon_int ka_nil)) mon_int (by simp) (by simp)) S H2 fr2 hS c2 (Same.refl _) _ fun v2 H3 k3 c3 p3 => ?_
  exact ret ((k1.trans k2).trans k3) c3 (k3.fr c3 fr2) p3
theorem ok_lls {f : Addr} {fd : FuncData} (F : FnP K "_law_listed" s_lls f fd) (T : Tx K mg) (D_dr : Fd P w K mg base "_law_draw" 1 ["_law_source_here", "_law_many"] spDraw) (D_lky : Fd P w K mg base "_law_key" 3 ["_law_source_here", "_law_top"] spKey)
    (D_lpb : Fd P w K mg base "_law_put_both" 2 ["_law_kind", "_law_listed_here", "_law_key_here", "_law_many"] (spR RLpb)) : FnOk P w K mg base CX0 4 f fd ["_law_source_here", "_law_kind", "_law_size", "_law_cap"] spListed := by
  obtain ⟨f_dr, fd_dr, G_dr, b_dr, k_dr, m_dr⟩ := D_dr.ex
  obtain ⟨f_lky, fd_lky, G_lky, b_lky, k_lky, m_lky⟩ := D_lky.ex
  obtain ⟨f_lpb, fd_lpb, G_lpb, b_lpb, k_lpb, m_lpb⟩ := D_lpb.ex
  refine F.ok sc_lls (fun vs H Q E h => ?_) (fun cdv A outer s0 H vs Q E hr h => ?_)
  · obtain ⟨S, s, kind, m, cap, rfl, _⟩ := h
    rfl
  obtain ⟨S, s, kind, m, cap, rfl, fr, hS, hc, m12, c1, c9, q⟩ := h
  refine ⟨_, PSs.nox (pss_cons (ps_par (i := 4) (j := 5) (by rfl) sc_lls.nd rfl rfl (by decide) rfl rfl (pa_cons (pe_lst pa_nil) (pa_cons (pe_op op_add pe_int (pe_call G_dr (hr.mono (by decide)) rfl m_dr k_dr b_dr .nil pass0 (pa_cons (pv 0) (pa_cons pe_int pa_nil)))) pa_nil)) (by rfl))
      (pss_cons (ps_for PassesOwn.never rfl (pi_range1 rfl T.range (pa_cons (pv 2) pa_nil)) (pg_name (i := 6) sc_lls.nd rfl (.inl rfl)) (pss_cons (ps_set (i := 7) sc_lls.nd rfl (.inl rfl) (pe_call G_lpb (hr.mono (by decide)) rfl m_lpb k_lpb b_lpb .nil pass0 (pa_cons (pv 1) (pa_cons (pv 4) (pa_cons (pe_call G_lky (hr.mono (by decide)) rfl m_lky k_lky b_lky .nil pass0 (pa_cons (pv 0) (pa_cons (pv 5) pa_nil))) (pa_cons (pe_op op_add pe_int (pe_call G_dr (hr.mono (by decide)) rfl m_dr k_dr b_dr .nil pass0 (pa_cons (pv 0) (pa_cons (pv 3) pa_nil)))) pa_nil))))))
      (pss_one (ps_if (pt_cmpR op_le (pe_callB (call_lenQ : CallR _ _ (rLenQ K)) (by rfl) T.len bLen (pa_cons (pv 7) pa_nil)) (pv 2) (nomark _)) (pss_one (ps_set (i := 4) sc_lls.nd rfl (.inl rfl) (pv 7))) pss_nil))))
      (pss_one (ps_ret (pv 4))))), ?_⟩
  refine go_parK (S := S) (P1 := LstP kind m cap) (P2 := IntP 1 3) fr hS hc (k_of (EvP.weak (e_lst a_nil) fun F v r => ⟨[], lst_nil _ _ _, r⟩)) ((k_add (k_int (lo := 1) (hi := 1) (by decide) (by decide)) (k_draw (m := 3) rfl e_int (by decide) (by decide))).weak fun H v ⟨z, e, a, b⟩ => ⟨z, e, a, by omega⟩) mon_lst fun vf vt H1 k1 cs1 fr1 pf pt => ?_
  obtain ⟨top, rfl, t1, t3⟩ := pt
  refine go_forRS (S := S) (n := m) fr1 (a_cons (e_var rfl (.int _)) a_nil) (by omega) fun H2 s2 fr2 => ⟨fun i σ H' => ∃ x4 x6 x7, σ = [some (.ref s), some (.int (kind : Int)), some (.int (m : Int)), some (.int cap), some x4, some (.int top), x6, x7] ∧ Kp s H H' ∧ Src H' s ∧ LstP kind m cap (offS S H') x4, ?_, ?_, ?_⟩
  · exact ⟨vf, none, none, rfl, k1.trans (.of s2), src_same cs1 s2, mon_lst _ _ _ (offS_mono s2) pf⟩
  · rintro i σ H3 hi ⟨x4, x6, x7, rfl, k3, cs3, ks, lk, rk⟩
    have fr3 := k3.fr cs3 fr
    refine go_setK (P := RpP fun d => ∃ q n, d = .list ((putB kind ks q n).map roD) ∧ GoodK q ∧ n ≤ cap) fr3 hS cs3 (k_callR (Ps := [fun _ v => v = .int (kind : Int), fun F v => Rp F v (.list (ks.map roD)), KyP, IntP 1 cap]) (ka_cons (k_of (e_varP rfl fun _ _ => rfl)) mon_eq (ka_cons (k_of (e_var rfl rk)) mon_d (ka_cons (k_key rfl (k_varI (z := top) rfl (by omega) (by omega))) mon_ky (ka_cons ((k_add (k_int (lo := 1) (hi := 1) (by decide) (by decide)) (k_draw (m := cap) rfl (e_var rfl (.int _)) (by omega) (by omega))).weak fun H v ⟨z, e, a, b⟩ => ⟨z, e, a, by omega⟩) mon_int ka_nil)))) fun F vs r => ?_) fun vm H4 k4 cs4 fr4 pm => ?_
    · obtain ⟨a, b, c, d, rfl, rfl, rb, ⟨q, gq, rq⟩, ⟨n, rfl, n1, n9⟩⟩ := psa4 r
      exact ⟨_, _, .cons (.int _) (.cons rb (.cons rq (.cons (.int _) .nil))), ⟨kind, ks, q, n, rfl, lk.s.mono (by omega), gq, by omega, rfl⟩, q, n, rfl, gq, n9⟩
    obtain ⟨d, ⟨q, n, rfl, gq, nc⟩, rm⟩ := pm
    have k34 := k3.trans k4
    refine go_if (S := S) (b := decide (((putB kind ks q n).length : Int) ≤ (m : Int))) fr4 (b_test (e_cmp (g := fun i j => decide (i ≤ j)) (eqD (e_lenL (K := K) (e_var rfl rm)) (by rw [List.length_map])) (e_var rfl (.int _)))) (fun z H5 s5 fr5 => ?_) fun z H5 s5 fr5 => ?_
    · have l : (putB kind ks q n).length ≤ m := by have := of_decide_eq_true z; omega
      exact ⟨vm, rfl, vm, _, _, rfl, k34.trans (.of s5), src_same cs4 s5, _, lst_put lk m12 gq (by omega) nc l, rm.mono (offS_mono s5)⟩
    · exact ⟨x4, _, _, rfl, k34.trans (.of s5), src_same cs4 s5, ks, lk, rk.mono ((k4.off hS).trans (offS_mono s5))⟩
  · rintro σ H3 ⟨x4, x6, x7, rfl, k3, cs3, p3⟩
    exact ⟨x4, rfl, q x4 H3 k3 cs3 p3⟩
end
end Q

set_option maxHeartbeats 1000000
namespace Ca
open PySem PySem.Spec PyProof.Rows L2
/-! ### repr of data or of an own instance -/
def rReprA (C : Addr) (sp : Sp) : List V → Hp → VK → Prop := fun xs H Q => rRepr xs H Q ∨ ∃ a dx fs, xs = [.ref a] ∧ H a = some (.ins C dx fs) ∧ sp [.ref a] H (fun v H' => ∃ z : PySem.Str, v = .str z ∧ Q (.str z) H') E0
theorem call_reprA {X : Cx} {C f : Addr} {k : Nat} {fd : FuncData} {sp : Sp} (sm : ∃ o, X.K.lookup sysModules = some o) (hg : X.A.guards = some []) (hs : PySem.W.findIn X.K (.ref C) "__repr__" = some (some (.ref f))) (hf : PySem.W.isFn X.K (.ref f) = true)
    (F : FnOk X.prog X.w X.K X.mg X.base CX0 k f fd ["self"] sp) (hb : Binds X.K fd ["self"] []) (hr : Room (k + 1) X.A) : CallR X (.builtin "repr") (rReprA C sp) := by
  intro pins s σ H xs us Q I r h
  rcases h with h | ⟨a, dx, fs, rfl, ha, q⟩
  · exact call_repr sm hg hr pins s σ H xs us Q I r h
  · obtain ⟨u, rfl, r1⟩ := r.one
    cases (show u = Value.ref a from r1)
    obtain ⟨mA, O, _⟩ := ins_get I.hok ha
    obtain ⟨od, J, _⟩ := O.look
    obtain ⟨m, fr⟩ := I.fr
    have hu : X.A.in1.units < cLine := hr.in1.units0
    refine PySem.W.repr_K hu fr I.ok.mod.kin J hs hf ?_
    have r2 : Vals [V.ref a] [Value.ref a] := .cons rfl .nil
    refine wpAny_call (codeAny_mono (F.run X.A.in1 X.stack s H ⟨[.ref a], []⟩ [.ref a] [.ref a] _ E0 hr.in1 I.env0.in1 (hb s [.ref a] I.kIn (by simp)) r2 q) fun r s' hq => ?_)
    cases r with
    | error e => exact False.elim hq
    | ok fl =>
      cases fl with
      | ret u =>
        obtain ⟨v, H', J', rv, z, rfl, q2⟩ := I.after hq
        obtain ⟨t, rfl⟩ := rv
        exact ⟨.str z, H', J', ⟨t, rfl⟩, q2⟩
      | _ => exact False.elim hq
section
variable {σ : L2.St} {F : Hp} {ta te : TE} {C : Addr} {sp : Sp} {d : PyData} {n : Nat}
theorem e_reprD (h : EvD ta σ F d) (ft : Fit d 60 n) (big : n ≤ sizeLine) : EvD (tCB (rReprA C sp) (tCons ta tNil)) σ F (.str d.shown) := fun S H1 f s Q q => by
  show ta σ H1 fun x H2 => rReprA C sp [x] H2 Q
  exact h S H1 f s _ fun v H2 s2 r => .inl ⟨v, d, rfl, r.mono offS_same, ft.sh, ft.dp, Nat.le_trans ft.ln big, q _ H2 s2 (.str _)⟩
end
end Ca

set_option maxHeartbeats 1000000
namespace Q
open PySem PySem.Spec PyProof.Rows L2 Ca
/-- what is never read -/
theorem pe_never {X : Cx} {e : Expr} : PE X e (fun _ _ _ => False) := ⟨fun _ _ _ _ _ _ h => h.elim⟩
theorem pe_or {X : Cx} {e : Expr} {t1 t2 : TE} (h1 : PE X e t1) (h2 : PE X e t2) : PE X e (fun σ H Q => t1 σ H Q ∨ t2 σ H Q) := ⟨fun pins s σ H Q I h => h.elim (h1.run pins s σ H Q I) (h2.run pins s σ H Q I)⟩
/-! ### books without questions -/
abbrev QE : Empty → Hp → V → Prop := fun q => nomatch q
theorem mon_qe : QMon QE := ⟨fun q => nomatch q⟩
theorem nil_qs : ∀ qs : List Empty, qs = []
  | [] => rfl
  | q :: _ => nomatch q
theorem wv_nil {qs : List Empty} {F : Hp} {v : V} (h : WV QE qs F v) : Rp F v (.tuple []) := by
  obtain ⟨a, ys, rfl, h1, h2⟩ := h
  obtain rfl := nil_qs qs
  cases h2
  exact .tup h1 .nil
section
variable {α : Type} {CT CB b p : Addr} {QP : α → Hp → V → Prop} {cap : Option Int} {st : BSt α} {n : Nat} {cnt : α → List Ro → Int}
theorem bv_ins {F : Hp} {v : V} (h : BV CT CB QP b p cap st n F v) : ∃ dx fs, v = .ref b ∧ F b = some (.ins CB dx fs) := by
  obtain ⟨dx, t, w, xs, h1, _⟩ := h.ex
  exact ⟨dx, _, h.e, h1⟩
theorem bv_of {F : Hp} {v : V} {I : Hp → List V → (Hp → V → Prop) → Prop} {P : Hp → V → Prop} (h : BV CT CB QP b p cap st n F v) (i : I F [v] P) : I F [v] P ∧ ∃ a dx fs, v = .ref a ∧ F a = some (.ins CB dx fs) := by
  obtain ⟨dx, fs, e, h1⟩ := bv_ins h
  exact ⟨i, b, dx, fs, e, h1⟩
theorem bv_tab : ∀ F v, BV CT CB QP b p cap st n F v → IBTab CT CB QP F [v] (TV CT st.ks) ∧ ∃ a dx fs, v = .ref a ∧ F a = some (.ins CB dx fs) := fun F v h => bv_of h ⟨v, b, p, cap, st, n, rfl, h, rfl⟩
theorem bv_qs : ∀ F v, BV CT CB QP b p cap st n F v → IBQs CT CB QP F [v] (WV QP st.qs) ∧ ∃ a dx fs, v = .ref a ∧ F a = some (.ins CB dx fs) := fun F v h => bv_of h ⟨v, b, p, cap, st, n, rfl, h, rfl⟩
theorem bv_ch : ∀ F v, BV CT CB QP b p cap st n F v → IBCh CT CB QP F [v] (fun H v => Rp H v (.int (n : Int))) ∧ ∃ a dx fs, v = .ref a ∧ F a = some (.ins CB dx fs) := fun F v h => bv_of h ⟨v, b, p, cap, st, n, rfl, h, rfl⟩
theorem bv_cnt : ∀ F v, BV CT CB QP b p cap st n F v → IBCnt CT CB QP cnt F [v] (fun H v => Rp H v (.tuple (st.qs.map fun q => .int (cnt q st.ks)))) ∧ ∃ a dx fs, v = .ref a ∧ F a = some (.ins CB dx fs) := fun F v h => bv_of h ⟨v, b, p, cap, st, n, rfl, h, rfl⟩
theorem bv_most {c : Int} : ∀ F v, BV CT CB QP b p (some c) st n F v → IBMost CT CB QP F [v] (fun H v => Rp H v (.int c)) ∧ ∃ a dx fs, v = .ref a ∧ F a = some (.ins CB dx fs) := fun F v h => bv_of h ⟨v, b, p, c, st, n, rfl, h, rfl⟩
variable {K : PySem.W.Frag} {σ : L2.St} {F : Hp} {ta : TE}
theorem e_lenB (h : EvP ta σ F (BV CT CB QP b p cap st n)) (hz : st.ks.length ≤ 1000) : EvD (tCB (rLenO CB (spQ (IBLen CT CB QP))) (tCons ta tNil)) σ F (.int (st.ks.length : Int)) := fun S H1 f s Q q => by
  show ta σ H1 fun x H2 => rLenO CB (spQ (IBLen CT CB QP)) [x] H2 Q
  refine h S H1 f s _ fun v H2 s2 r => ?_
  obtain ⟨dx, fs, rfl, ha⟩ := bv_ins r
  refine ⟨b, dx, _, rfl, offS_same _ _ ha, S, _, f.mono s2, ⟨_, b, p, cap, st, n, rfl, r, rfl⟩, fun v H3 s3 r => ?_⟩
  cases r
  exact ⟨_, rfl, by omega, by omega, q _ H3 (s2.trans s3) (.int _)⟩
theorem e_reprB {x : PySem.Str} (h : EvP ta σ F (BV CT CB QP b p cap st n)) : EvD (tCB (rReprA CB (spQ (IBRep CT CB QP x))) (tCons ta tNil)) σ F (.str (bsay x st.ks.length)) := fun S H1 f s Q q => by
  show ta σ H1 fun y H2 => rReprA CB (spQ (IBRep CT CB QP x)) [y] H2 Q
  refine h S H1 f s _ fun v H2 s2 r => ?_
  obtain ⟨dx, fs, rfl, ha⟩ := bv_ins r
  refine .inr ⟨b, dx, _, rfl, offS_same _ _ ha, S, _, f.mono s2, ⟨_, b, p, cap, st, n, rfl, r, rfl⟩, fun v H3 s3 r => ?_⟩
  cases r
  exact ⟨_, rfl, q _ H3 (s2.trans s3) (.str _)⟩
end
/-! ### counts_in without questions, the law's own _law_due -/
abbrev s_cin : Stmt := top 49
abbrev n_cin : List PySem.Str := ["table", "questions", "question"]
theorem sc_cin : FnScope n_cin ["table", "questions"] (defScope s_cin) := ⟨rfl, rfl, rfl, by decide +kernel, rfl, by decide +kernel, by decide +kernel⟩
abbrev s_ldu : Stmt := top 71
abbrev n_ldu : List PySem.Str := ["_law_kind", "_law_listed_here", "_law_changes", "_law_words", "_law_cap", "_law_name", "_law_found", "_law_word"]
theorem sc_ldu : FnScope n_ldu ["_law_kind", "_law_listed_here", "_law_changes", "_law_words", "_law_cap"] (defScope s_ldu) := ⟨rfl, rfl, rfl, by decide +kernel, rfl, by decide +kernel, by decide +kernel⟩
def nameOf : Nat → PySem.Str
  | 0 => "Book"
  | 1 => "Mirrored"
  | 2 => "Capped"
  | _ => "CappedMirror"
/-- what a book tells of itself that has no questions -/
def seenD (kind : Nat) (ks : List Ro) (ch cap : Int) : List PyData := [.str (txr ks), .int ch, .int (ks.length : Int), .str (bsay (nameOf kind) ks.length), .bool true, .list [], .tuple []] ++ if 2 ≤ kind then [.int cap] else []
def RLdu : List PyData → PyData → Prop := fun ds d => ∃ (kind : Nat) (ks : List Ro) (ch cap : Int), ds = [.int (kind : Int), .list (ks.map roD), .int ch, .list [], .int cap] ∧ kind < 4 ∧ SRo 12 ks ∧ d = .list (seenD kind ks ch cap)
theorem rpa5 {H : Hp} {vs : List V} {d1 d2 d3 d4 d5 : PyData} (r : RpA H vs [d1, d2, d3, d4, d5]) : ∃ v1 v2 v3 v4 v5, vs = [v1, v2, v3, v4, v5] ∧ Rp H v1 d1 ∧ Rp H v2 d2 ∧ Rp H v3 d3 ∧ Rp H v4 d4 ∧ Rp H v5 d5 := by
  cases r with
  | cons h r =>
    obtain ⟨a, b, c, d, rfl, h⟩ := rpa4 r
    exact ⟨_, a, b, c, d, rfl, ‹_›, h⟩
theorem name_at : ∀ kind : Nat, kind < 4 → ([.str "Book", .str "Mirrored", .str "Capped", .str "CappedMirror"] : List PyData)[kind]? = some (.str (nameOf kind))
  | 0, _ => rfl
  | 1, _ => rfl
  | 2, _ => rfl
  | 3, _ => rfl
  | n + 4, h => absurd h (by omega)
theorem say_eq : ∀ kind : Nat, kind < 4 → ∀ n : Nat, n ≤ 12 → ((nameOf kind ++ PySem.Str.ofString "(") ++ PySem.Str.ofString (toString (n : Int))) ++ PySem.Str.ofString " rows)" = bsay (nameOf kind) n ∧ (nameOf kind).length ≤ 20 ∧ (PySem.Str.ofString (toString (n : Int))).length ≤ 20 := by decide +kernel
section
variable {P : Program} {w : World} {K : PySem.W.Frag} {mg : PySem.Str → Option Value} {base : Heap}
theorem ok_cinE {CT : Addr} {f : Addr} {fd : FuncData} {cnt : Empty → List Ro → Int} (F : FnP K "counts_in" s_cin f fd) (T : Tx K mg) : FnOk P w K mg base CX0 8 f fd ["table", "questions"] (spQ (ICin CT QE cnt)) := by
  refine F.ok sc_cin (spQ_len (by rintro _ _ _ ⟨v, u, ks, qs, rfl, _⟩; rfl)) (fun cdv A outer s H vs Q E hr h => ?_)
  obtain ⟨S, P0, fr, ⟨v, u, ks, qs, rfl, tv, gt, wv, rfl⟩, q⟩ := h
  refine ⟨_, PSs.nox (pss_one (ps_ret (pe_callTy (call_tupQ : CallR _ _ (rTupQ K)) (by rfl) T.tup bTup (pa_cons (pe_lc (own := [("question", 2)]) (g := gName 2) rfl sc_cin.nd (pi_tupQ (K := K) rfl (pv 1)) (blkOk_by (own := [("question", 2)]) (N := n_cin) (sc := (defScope s_cin)) (by decide +kernel)) (fun _ _ _ _ _ => (pg_name (i := 2) sc_cin.nd rfl (Or.inl rfl))) (fun _ _ _ _ _ => pts_nil) (fun _ _ _ _ _ => pe_never)) pa_nil)))), ?_⟩
  obtain rfl := nil_qs qs
  have r := wv_nil wv
  exact go_ret (P := fun H v => Rp H v (.tuple [])) fr (e_tupOf (e_lcT (K := K) (enc := id) (as := []) (b := fun _ => true) (ev := id) (e_var rfl r) (Nat.zero_le _) fun d hd => by cases hd)) q
theorem ok_ldu {f : Addr} {fd : FuncData} (F : FnP K "_law_due" s_ldu f fd) (T : Tx K mg) (D_ltx : Fd P w K mg base "_law_text" 1 ["_law_listed_here"] (spR RLtx)) : FnOk P w K mg base CX0 2 f fd ["_law_kind", "_law_listed_here", "_law_changes", "_law_words", "_law_cap"] (spR RLdu) := by
  obtain ⟨f_ltx, fd_ltx, G_ltx, b_ltx, k_ltx, m_ltx⟩ := D_ltx.ex
  refine F.ok sc_ldu (spR_len (by rintro _ _ ⟨_, _, _, _, rfl, _⟩; rfl)) (fun cdv A outer s H vs Q E hr h => ?_)
  obtain ⟨S, ds, d, fr, rA, ⟨kind, ks, ch, cap, rfl, k4, sk, rfl⟩, q⟩ := h
  obtain ⟨v0, v1, v2, v3, v4, rfl, r0, r1, r2, r3, r4⟩ := rpa5 rA
  cases r0
  cases r2
  cases r4
  refine ⟨_, PSs.nox (pss_cons (ps_set (i := 5) sc_ldu.nd rfl (.inl rfl) (pe_ix (ix_list : IxR _ (rIxL K)) (pe_lst (pa_cons pe_str (pa_cons pe_str (pa_cons pe_str (pa_cons pe_str pa_nil))))) (pv 0) (fun _ _ => rfl)))
      (pss_cons (ps_set (i := 6) sc_ldu.nd rfl (.inl rfl) (pe_lst (pa_cons (pe_call G_ltx (hr.mono (by decide)) rfl m_ltx k_ltx b_ltx .nil pass0 (pa_cons (pv 1) pa_nil)) (pa_cons (pv 2) (pa_cons (pe_callB (call_lenQ : CallR _ _ (rLenQ K)) (by rfl) T.len bLen (pa_cons (pv 1) pa_nil)) (pa_cons (pe_op op_add_str (pe_op op_add_str (pe_op op_add_str (pv 5) pe_str) (pe_callTy call_str_int (by rfl) T.str bStr (pa_cons (pe_callB (call_lenQ : CallR _ _ (rLenQ K)) (by rfl) T.len bLen (pa_cons (pv 1) pa_nil)) pa_nil))) pe_str) (pa_cons pe_bl pa_nil)))))))
      (pss_cons (ps_set (i := 6) sc_ldu.nd rfl (.inl rfl) (pe_op op_cat (pv 6) (pe_lst (pa_cons (pv 3) (pa_cons (pe_callTy (call_tupQ : CallR _ _ (rTupQ K)) (by rfl) T.tup bTup (pa_cons (pe_lc (own := [("_law_word", 7)]) (g := gName 7) rfl sc_ldu.nd (pi_listQ (K := K) rfl (pv 3)) (blkOk_by (own := [("_law_word", 7)]) (N := n_ldu) (sc := (defScope s_ldu)) (by decide +kernel)) (fun _ _ _ _ _ => (pg_name (i := 7) sc_ldu.nd rfl (Or.inl rfl))) (fun _ _ _ _ _ => pts_nil) (fun _ _ _ _ _ => pe_never)) pa_nil)) pa_nil)))))
      (pss_one (ps_ret (pe_ifExp (pt_cmpR op_ge (pv 0) pe_int (nomark _)) (pe_op op_cat (pv 6) (pe_lst (pa_cons (pv 4) pa_nil))) (pv 6))))))), ?_⟩
  obtain ⟨sy, ln, lt⟩ := say_eq kind k4 ks.length sk.l
  have l1 : (PySem.Str.ofString "(").length = 1 := by decide +kernel
  have l6 : (PySem.Str.ofString " rows)").length = 6 := by decide +kernel
  have hn := name_at kind k4
  have tI : ∀ {F' : Hp} {σ : L2.St} {i : Int}, EvD (tC (.int i)) σ F' (.int i) := e_int
  refine go_setS (S := S) (P := fun H v => Rp H v (.str (nameOf kind))) fr (e_ixL (n := kind) (e_lst (a_cons e_str (a_cons e_str (a_cons e_str (a_cons e_str a_nil))))) (e_var rfl (.int _)) rfl hn) fun v5 H1 s1 fr1 r5 => ?_
  have r1a := r1.mono (offS_mono (S := S) s1)
  have ll : ∀ {σ : L2.St} {F' : Hp}, σ[1]? = some (some v1) → Same (offS S H1) F' → EvD (tCB (rLenQ K) (tCons (tVar 1) tNil)) σ F' (.int (ks.length : Int)) := fun e sm => eqD (e_lenL (K := K) (e_var e (r1a.mono sm))) (by rw [List.length_map])
  have sml : ((ks.length : Nat) : Int).natAbs.log2 < 1920 := log99 (by omega) (by have := sk.l; omega)
  refine go_setS (S := S) (P := fun H v => Rp H v (.list [.str (txr ks), .int ch, .int (ks.length : Int), .str (bsay (nameOf kind) ks.length), .bool true])) fr1 (e_lst (a_cons (e_call (R := RLtx) (a_cons (e_var rfl r1a) a_nil) ⟨ks, rfl, sk.l, sk.g, by rw [sk.up]⟩) (a_cons (e_var rfl (.int _)) (a_cons (ll rfl (Same.refl _)) (a_cons (eqD (e_addS (e_addS (e_addS (e_var rfl r5) e_str (by rw [l1]; omega)) (e_strI (ll rfl (Same.refl _)) sml) (by rw [Str.length_append, l1]; omega)) e_str (by rw [Str.length_append, Str.length_append, l1, l6]; omega)) (by rw [sy])) (a_cons e_bl a_nil)))))) fun v6 H2 s2 fr2 r6 => ?_
  have o12 := offS_mono (S := S) (s1.trans s2)
  refine go_setS (S := S) (P := fun H v => Rp H v (.list [.str (txr ks), .int ch, .int (ks.length : Int), .str (bsay (nameOf kind) ks.length), .bool true, .list [], .tuple []])) fr2 (e_cat (e_var rfl r6) (e_lst (ds := [.list [], .tuple []]) (a_cons (e_var rfl (r3.mono o12)) (a_cons (e_tupOf (e_lcL (K := K) (enc := id) (as := []) (b := fun _ => true) (ev := id) (e_var rfl (r3.mono o12)) (Nat.zero_le _) fun d hd => by cases hd)) a_nil))) (by simp)) fun v7 H3 s3 fr3 r7 => ?_
  refine go_ret (P := fun H v => Rp H v (.list (seenD kind ks ch cap))) fr3 (e_ifP (b := decide ((2 : Int) ≤ (kind : Int))) (b_test (e_cmp (g := fun i j => decide (j ≤ i)) (e_var rfl (.int _)) tI)) (fun z => ?_) fun z => ?_) fun v H4 s4 r => q v H4 (s1.trans (s2.trans (s3.trans s4))) r
  · have k2 : 2 ≤ kind := by have := of_decide_eq_true z; omega
    refine eqD (e_cat (e_var rfl r7) (e_lst (a_cons (e_var rfl (.int cap)) a_nil)) (by simp)) ?_
    unfold seenD
    rw [if_pos k2]
  · have k2 : ¬ 2 ≤ kind := by have := of_decide_eq_false z; omega
    refine eqD (e_var rfl r7) ?_
    unfold seenD
    rw [if_neg k2]
    rfl
end
end Q

set_option maxHeartbeats 1000000
namespace Q
open PySem PySem.Spec PyProof.Rows L2 Ca
abbrev s_lsn : Stmt := top 70
abbrev n_lsn : List PySem.Str := ["_law_kind", "_law_book", "_law_asked", "_law_found", "_law_one"]
theorem sc_lsn : FnScope n_lsn ["_law_kind", "_law_book"] (defScope s_lsn) := ⟨rfl, rfl, rfl, by decide +kernel, rfl, by decide +kernel, by decide +kernel⟩
def spSeenK (CT CB : Addr) (kind : Nat) (fc : Int → Option Int) : Sp := fun vs H Q _ => ∃ (S : Addr → Bool) (b p : Addr) (cap : Int) (st : BSt Empty) (n : Nat) (v : V), vs = [.int (kind : Int), v] ∧ Fr S H ∧ BV CT CB QE b p (fc cap) st n (offS S H) v ∧ ∀ v' H', Same H H' → Rp (offS S H') v' (.list (seenD kind st.ks (n : Int) cap)) → Q v' H'
abbrev spSeenB (CT CB : Addr) : Sp := spSeenK CT CB 0 fun _ => none
abbrev spSeenM (CT CB : Addr) : Sp := spSeenK CT CB 1 fun _ => none
abbrev spSeenC (CT CB : Addr) : Sp := spSeenK CT CB 2 some
abbrev spSeenX (CT CB : Addr) : Sp := spSeenK CT CB 3 some
end Q

set_option maxHeartbeats 1000000
namespace Q
open PySem PySem.Spec PyProof.Rows L2 Ca LamX
/-! ### what a call says: told, or the name of its exception -/
abbrev s_lsd : Stmt := top 69
abbrev n_lsd : List PySem.Str := ["_law_call"]
theorem sc_lsd : FnScope n_lsd ["_law_call"] (defScope s_lsd) := ⟨rfl, rfl, rfl, by decide +kernel, rfl, by decide +kernel, by decide +kernel⟩
/-- the first of these that an exception is of -/
def Fits (K : PySem.W.Frag) : List (Addr × PySem.Str) → Value → PySem.Str → Prop
  | [], _, _ => False
  | (N, y) :: l, cls, x => (PySem.W.exmOne K cls (.ref N) = some true ∧ x = y) ∨ (PySem.W.exmOne K cls (.ref N) = some false ∧ Fits K l cls x)
def sufs (l : List (Addr × PySem.Str)) : List (Value × (Addr → Value → Option Addr → TS)) := l.map fun z => (.ref z.1, fun _ _ _ => tRet (tLst (tCons (tC (.str z.2)) tNil)))
theorem many_of {K : PySem.W.Frag} {Wout : WX} {D : L2.Ends} {cls : Value} {x : PySem.Str} {d : Option Addr} {σ : L2.St} {H : Hp} (q : ∀ a, H a = none → D.rt (.ref a) (upd H a (.lst [.str x]))) : ∀ {l : List (Addr × PySem.Str)}, Fits K l cls x → wMany K Wout D (sufs l) cls d σ H
  | [], h => h.elim
  | (N, y) :: l, h => by
    rcases h with ⟨e, rfl⟩ | ⟨e, h⟩
    · exact ⟨true, e, fun _ a _ => ⟨(by show 1 ≤ sizeLine; decide), q⟩, (fun z => by cases z)⟩
    · exact ⟨false, e, (fun z => by cases z), fun _ => many_of q h⟩
def TSaid (K : PySem.W.Frag) (l : List (Addr × PySem.Str)) : (XK → Hp → VK → Prop) → Hp → VK → Prop := fun tl H Q =>
  tl (fun cls _ H' => ∃ x, Fits K l cls x ∧ ∀ a, H' a = none → Q (.ref a) (upd H' a (.lst [.str x]))) H fun v H1 => [V.str "told", v].length ≤ sizeLine ∧ ∀ a, H1 a = none → Q (.ref a) (upd H1 a (.lst [.str "told", v]))
theorem said_gives {X : Cx} {g N0 N1 N2 N3 N4 N5 N6 N7 : Addr} {cdg : Value} {q : PySem.Str} (g0 : X.mg "NoKey" = some (.ref N0)) (g1 : X.mg "NoNumber" = some (.ref N1)) (g2 : X.mg "NoTable" = some (.ref N2)) (g3 : X.mg "NoQuestion" = some (.ref N3)) (g4 : X.mg "TooMuch" = some (.ref N4)) (g5 : X.mg "TooOften" = some (.ref N5)) (g6 : X.mg "NotMirrored" = some (.ref N6)) (g7 : X.mg "NothingDone" = some (.ref N7)) :
    GivesTo X ["_law_call"] "_law_said" (defScope s_lsd) g cdg (defBody s_lsd) "_law_call" q (TSaid X.K [(N0, "NoKey"), (N1, "NoNumber"), (N2, "NoTable"), (N3, "NoQuestion"), (N4, "TooMuch"), (N5, "TooOften"), (N6, "NotMirrored"), (N7, "NothingDone")]) := by
  intro f c' s H Q tl act hc h
  refine ⟨_, pss_one (ps_try_many (X := (cxOf C8.CX0 X.prog X.w X.K X.mg X.base ["_law_call"] "_law_said" (defScope s_lsd) g cdg X.A X.stack s H C8.E0).nox)
      (tb := fun W D σ H => ∃ Ech : XK, (∀ cls d σ' H', Ech cls d H' → W cls d σ' H') ∧ σ[0]? = some (some (.ref f)) ∧ H c' = some (CodeO c' q) ∧ tl Ech H fun v H1 => [V.str "told", v].length ≤ sizeLine ∧ ∀ a, H1 a = none → D.rt (.ref a) (upd H1 a (.lst [.str "told", v]))) (Wout := fun _ _ _ _ => False) rfl rfl L2.takes0
    (fun W pn xe tk _ => ?_)
    (.cons (c := .ref N0) (ts := fun _ _ _ => tRet (tLst (tCons (tC (.str "NoKey")) tNil))) ⟨rfl, by decide, .inl g0⟩ (fun a oe cls d pn hz hf => pss_one (ps_ret (pe_lst (pa_cons pe_str pa_nil)))) (.cons (c := .ref N1) (ts := fun _ _ _ => tRet (tLst (tCons (tC (.str "NoNumber")) tNil))) ⟨rfl, by decide, .inl g1⟩ (fun a oe cls d pn hz hf => pss_one (ps_ret (pe_lst (pa_cons pe_str pa_nil)))) (.cons (c := .ref N2) (ts := fun _ _ _ => tRet (tLst (tCons (tC (.str "NoTable")) tNil))) ⟨rfl, by decide, .inl g2⟩ (fun a oe cls d pn hz hf => pss_one (ps_ret (pe_lst (pa_cons pe_str pa_nil)))) (.cons (c := .ref N3) (ts := fun _ _ _ => tRet (tLst (tCons (tC (.str "NoQuestion")) tNil))) ⟨rfl, by decide, .inl g3⟩ (fun a oe cls d pn hz hf => pss_one (ps_ret (pe_lst (pa_cons pe_str pa_nil)))) (.cons (c := .ref N4) (ts := fun _ _ _ => tRet (tLst (tCons (tC (.str "TooMuch")) tNil))) ⟨rfl, by decide, .inl g4⟩ (fun a oe cls d pn hz hf => pss_one (ps_ret (pe_lst (pa_cons pe_str pa_nil)))) (.cons (c := .ref N5) (ts := fun _ _ _ => tRet (tLst (tCons (tC (.str "TooOften")) tNil))) ⟨rfl, by decide, .inl g5⟩ (fun a oe cls d pn hz hf => pss_one (ps_ret (pe_lst (pa_cons pe_str pa_nil)))) (.cons (c := .ref N6) (ts := fun _ _ _ => tRet (tLst (tCons (tC (.str "NotMirrored")) tNil))) ⟨rfl, by decide, .inl g6⟩ (fun a oe cls d pn hz hf => pss_one (ps_ret (pe_lst (pa_cons pe_str pa_nil)))) (.cons (c := .ref N7) (ts := fun _ _ _ => tRet (tLst (tCons (tC (.str "NothingDone")) tNil))) ⟨rfl, by decide, .inl g7⟩ (fun a oe cls d pn hz hf => pss_one (ps_ret (pe_lst (pa_cons pe_str pa_nil)))) .nil))))))))), ?_⟩
  · refine ⟨fun pins s' σ H' D I h' => ?_⟩
    obtain ⟨Ech, hW, h1, h2, h3⟩ := h'
    refine PSs.run (t := tRet (tLst (tCons (tC (.str "told")) (tCons (fun σZ HZ Q => σZ[0]? = some (some (.ref f)) ∧ HZ c' = some (CodeO c' q) ∧ tl Ech HZ Q) tNil)))) (pss_one (ps_ret (pe_lst (pa_cons pe_str (pa_cons (act W pn xe Ech _ _ tk hW) pa_nil))))) pins s' σ H' D I ⟨h1, h2, h3⟩
  · exact ⟨fun cls _ H' => ∃ x, Fits X.K [(N0, "NoKey"), (N1, "NoNumber"), (N2, "NoTable"), (N3, "NoQuestion"), (N4, "TooMuch"), (N5, "TooOften"), (N6, "NotMirrored"), (N7, "NothingDone")] cls x ∧ ∀ a, H' a = none → Q (.ref a) (upd H' a (.lst [.str x])), fun cls d σ' H' ⟨x, e1, e2⟩ => many_of e2 e1, rfl, hc, h⟩
end Q

set_option maxHeartbeats 4000000
namespace Ca
open PySem PySem.Spec PyProof.Rows L2 LamX
/-! ### the law's own call, with tables -/
theorem law_callGT {P : Program} {w : World} {K : PySem.W.Frag} {mg mb : PySem.Str → Option Value} {k : Nat} {fa a : Addr} {ts : List (Addr × Addr)} {sp : Sp} {s₁ : Shared} {vs : List Value} {ns : List Int}
    (KX : K.In s₁.heap) (gns : s₁.heap.Ns mainGlobals mg) (bns : s₁.heap.Ns builtinsNs mb) (bb : ∀ x : PySem.Str, x ≠ "__name__" → mb x = bootBuiltins x) (lim : s₁.heap.NoLimit) (hgen : s₁.gens = #[])
    (empty : ∀ p ∈ ts, s₁.heap.get? p.2 = some { cls := .none, data := .fields #[] }) (out : ∀ p ∈ ts, K.lookup p.2 = none) (hd : ∀ p ∈ ts, PySem.W.codeHdIn K p.1 p.2 = true)
    (bmod : ∃ (bm : Addr) (ob : Obj), mg "__builtins__" = some (.ref bm) ∧ bm ≠ builtinsNs ∧ s₁.heap.get? bm = some ob ∧ ob.cls = .type "module" ∧ ob.dict = some builtinsNs ∧ ob.data = .plain)
    (ha : s₁.heap.get? a = some { cls := .type "list", data := .seq vs.toArray }) (hi : IntsAre vs ns) (hl : ns.length ≤ sizeLine) (hr : Room k callerA)
    (F : ∀ base : Heap, K.In base → base.Ns mainGlobals mg → (∀ p ∈ ts, TabB base mg p.1 p.2) → FnG P w K mg base CX0 k fa sp)
    (hsp : ∀ H : Hp, (∀ p ∈ ts, H p.2 = some (.tbl #[])) → SqL K H a (ns.map V.int) → sp [.ref a] H (fun v _ => v = .bl true) fun _ _ _ => False) :
    codeAny (model P w) callerA (.call (.ref fa) ⟨[.ref a], []⟩) (fun r s' => r = .ok (.ret (.bool true)) ∧ OldK s₁.heap s'.heap ∧ s'.os = s₁.os ∧ AllBare s'.gens) s₁ := by
  have rv := vals_ints hi
  have lv := hi.length
  have tab_of : ∀ b ∈ ts.map Prod.snd, s₁.heap.get? b = some { cls := .none, data := .fields #[] } := fun b hb => by
    obtain ⟨p, hp, rfl⟩ := List.mem_map.mp hb
    exact empty p hp
  have a_no : a ∉ ts.map Prod.snd := fun z => by
    have q := (tab_of a z).symm.trans ha
    cases congrArg Obj.data (Option.some.inj q)
  have main : ∀ H : Hp, (∀ b ∈ ts.map Prod.snd, H b = some (.tbl #[])) → (∀ b, H b ≠ none → b = a ∨ b ∈ ts.map Prod.snd) → (∀ u, H a = some u → ∃ o xs, u = .frz o (.lst xs)) → SqL K H a (ns.map V.int) → HOk P w H s₁.heap → (H a ≠ none → K.lookup a = none) →
      codeAny (model P w) callerA (.call (.ref fa) ⟨[.ref a], []⟩) (fun r s' => r = .ok (.ret (.bool true)) ∧ OldK s₁.heap s'.heap ∧ s'.os = s₁.os ∧ AllBare s'.gens) s₁ := by
    intro H tabs only frozen sq hok inK
    have seen : ∀ {b : Addr} {o : Obj}, s₁.heap.get? b = some o → H b = none ∨ o.data = .seq vs.toArray ∨ o.data = .fields #[] := fun {b o} e => by
      cases q : H b with
      | none => exact .inl rfl
      | some u =>
        rcases only b (by rw [q]; simp) with rfl | hb
        · cases ha.symm.trans e
          exact .inr (.inl rfl)
        · cases (tab_of b hb).symm.trans e
          exact .inr (.inr rfl)
    have ns_hid : ∀ {b : Addr} {m : PySem.Str → Option Value}, s₁.heap.Ns b m → (hidT s₁.heap H).Ns b m := fun {b m} ⟨o, es, ep, e, d, z⟩ => by
      rcases seen e with h | h | h
      · exact ⟨o, es, ep, hidT_get e h, d, z⟩
      · cases d.symm.trans h
      · cases d.symm.trans h
    have kHid : K.In (hidT s₁.heap H) := fun b o e => by
      refine hidT_get (KX b o e) ?_
      cases q : H b with
      | none => rfl
      | some u =>
        rcases only b (by rw [q]; simp) with rfl | hb
        · cases (inK (by rw [q]; simp)).symm.trans e
        · obtain ⟨p, hp, rfl⟩ := List.mem_map.mp hb
          cases (out p hp).symm.trans e
    have md : Mod K mg (hidT s₁.heap H) := ⟨kHid, ns_hid gns, ⟨mb, ns_hid bns, bb⟩, let ⟨mc, h1, h2⟩ := lim; ⟨mc, ns_hid h1, h2⟩⟩
    have env : Env0 P w K mg (hidT s₁.heap H) callerA [] s₁ H := ⟨rfl, md, fun b o e => of_hidT e, Nat.le_of_eq (hidT_size _ _), trivial,
      fun b hb => absurd (show b ∈ ([] : List Addr) from hb) (by simp), hok, .of_eq hgen⟩
    have tb : ∀ p ∈ ts, TabB (hidT s₁.heap H) mg p.1 p.2 := fun p hp => by
      obtain ⟨o, es, ep, eg, dg, _⟩ := id gns
      refine NdefX.tabB_of_K kHid (hd p hp) ?_ fun z => ?_
      · obtain ⟨bm, ob, g1, g2, g3, g4, g5, g6⟩ := bmod
        refine ⟨bm, ob, g1, g2, fun z => ?_, fun z => ?_, ?_, g4, g5, g6⟩
        · rw [z, eg] at g3
          cases g3
          cases dg.symm.trans g6
        · rw [z, empty p hp] at g3
          cases g3
          cases g6
        · rcases seen g3 with h | h | h
          · exact hidT_get g3 h
          · cases g6.symm.trans h
          · cases g6.symm.trans h
      · rw [z, empty p hp] at eg
        cases eg
        cases dg
    refine codeAny_mono (F _ kHid (ns_hid gns) tb callerA [] s₁ H [.ref a] [.ref a] _ _ rfl hr env (.cons rfl .nil) (hsp H (fun p hp => tabs _ (List.mem_map.mpr ⟨p, hp, rfl⟩)) sq)) fun r s' h => ?_
    match r, h with
    | .ok (.ret u), ⟨v, H', os, bare, un, hok', r', q⟩ =>
      obtain rfl : v = .bl true := q
      obtain rfl : u = Value.bool true := r'
      have still : ∀ b o, b ∉ ts.map Prod.snd → s₁.heap.get? b = some o → s'.heap.get? b = some o := fun b o nb e => by
        cases q : H b with
        | none => exact un.keep b o e q (fun z => absurd (show b ∈ ([] : List Addr) from z) (by simp)) (by simp)
        | some u =>
          rcases only b (by rw [q]; simp) with rfl | hb
          · obtain ⟨ob, xs, rfl⟩ := frozen u q
            obtain ⟨e1, _⟩ := hok _ _ q
            obtain ⟨e2, _⟩ := hok' _ _ (un.frzs _ ob _ q)
            cases e1.symm.trans e
            exact e2
          · exact absurd hb nb
      have grown : ∀ b ∈ ts.map Prod.snd, ∃ more : Array Value, s'.heap.get? b = some { cls := .none, data := .fields more } := fun b hb => by
        obtain ⟨more, z⟩ := un.tbls b #[] (tabs b hb)
        exact ⟨_, hok' b _ z⟩
      refine ⟨rfl, ⟨fun b o e => ?_, fun b o e => ?_⟩, os, bare⟩
      · by_cases hb : b ∈ ts.map Prod.snd
        · obtain ⟨more, g⟩ := grown b hb
          obtain ⟨p, hp, rfl⟩ := List.mem_map.mp hb
          cases (empty p hp).symm.trans e
          exact .inr (.inl ⟨((PySem.W.codeHd_of_K KX (hd p hp)).tab (empty p hp)).isCodeTable, rfl, #[], more, rfl, by rw [Array.empty_append]; exact g⟩)
        · exact .inl (still b o hb e)
      · by_cases hb : b ∈ ts.map Prod.snd
        · obtain ⟨more, g⟩ := grown b hb
          exact ⟨_, g⟩
        · exact ⟨o, still b o hb e⟩
  cases hk : K.lookup a with
  | some o =>
    have e := KX a o hk
    rw [ha] at e
    cases e
    refine main (fun b => if b ∈ ts.map Prod.snd then some (.tbl #[]) else none) (fun b hb => if_pos hb) (fun b z => ?_) (fun u z => ?_) (.inr ⟨_, vs.toArray, _, hk, rfl, rfl, rfl, ?_, by simpa using rv⟩) (fun b u z => ?_) fun z => absurd (if_neg a_no) z
    · by_cases hb : b ∈ ts.map Prod.snd
      · exact .inr hb
      · exact absurd (if_neg hb) z
    · cases (if_neg a_no).symm.trans z
    · rw [List.size_toArray, lv]
      exact hl
    · by_cases hb : b ∈ ts.map Prod.snd
      · cases (if_pos hb).symm.trans z
        exact tab_of b hb
      · cases (if_neg hb).symm.trans z
  | none =>
    let oa : Obj := { cls := .type "list", data := .seq vs.toArray }
    let H0 : Hp := fun b => if b = a then some (.frz oa (.lst (ns.map V.int))) else if b ∈ ts.map Prod.snd then some (.tbl #[]) else none
    have at_a : H0 a = some (.frz oa (.lst (ns.map V.int))) := if_pos rfl
    have at_t : ∀ b ∈ ts.map Prod.snd, H0 b = some (.tbl #[]) := fun b hb => (if_neg (show ¬ b = a from fun z => a_no (by rw [← z]; exact hb))).trans (if_pos hb)
    have at_o : ∀ b, b ≠ a → b ∉ ts.map Prod.snd → H0 b = none := fun b n1 n2 => (if_neg n1).trans (if_neg n2)
    refine main H0 at_t (fun b z => ?_) (fun u z => ?_) (.inl (.inr ⟨oa, at_a⟩)) (fun b u z => ?_) fun _ => hk
    · by_cases h1 : b = a
      · exact .inl h1
      · by_cases h2 : b ∈ ts.map Prod.snd
        · exact .inr h2
        · exact absurd (at_o b h1 h2) z
    · cases at_a.symm.trans z
      exact ⟨_, _, rfl⟩
    · by_cases h1 : b = a
      · subst h1
        cases at_a.symm.trans z
        refine ⟨ha, ?_, vs, _, rv, ha⟩
        rw [List.length_map]
        exact hl
      · by_cases h2 : b ∈ ts.map Prod.snd
        · cases (at_t b h2).symm.trans z
          exact tab_of b h2
        · cases (at_o b h1 h2).symm.trans z
end Ca

set_option maxHeartbeats 4000000
namespace Ca
open PySem PySem.Spec PyProof.Rows L2 LamX He
/-! ### the code object of a def, its table -/
def codeAt (K : PySem.W.Frag) (f : Addr) : Addr := match K.lookup f with
  | some ⟨_, _, .func fd, _⟩ => (match fd.code with
    | .ref c => c
    | _ => 0)
  | _ => 0
def isRefC (K : PySem.W.Frag) (f : Addr) : Bool := match K.lookup f with
  | some ⟨_, _, .func fd, _⟩ => (match fd.code with
    | .ref _ => true
    | _ => false)
  | _ => false
def tabAt (K : PySem.W.Frag) (c : Addr) : Addr := match K.lookup c with
  | some ⟨_, _, .fields vs, _⟩ => (match (vs[11]? : Option Value) with
    | some (.ref P) => P
    | _ => 0)
  | _ => 0
/-- a def that makes lambdas: its code object and its table -/
def ctD (K : PySem.W.Frag) (d : DfX) : Addr × Addr := (codeAt K (d.at_ K), tabAt K (codeAt K (d.at_ K)))
def tabsZ (g : Addr → Option Obj) (tf : List DfX) (K : PySem.W.Frag) : Bool := tf.all fun d => isRefC K (d.at_ K) && (PySem.W.codeHdIn K (ctD K d).1 (ctD K d).2 && (match g (ctD K d).2 with
  | some o => emptyTab o
  | none => false))
structure SaysZ (fs : List (PySem.W.Frag → Bool)) (fn tf : List DfX) (h : Heap) (K : PySem.W.Frag) : Prop where
  c : SaysX fs fn K
  code : ∀ d ∈ tf, isRefC K (d.at_ K) = true
  hd : ∀ d ∈ tf, PySem.W.codeHdIn K (ctD K d).1 (ctD K d).2 = true
  out : ∀ d ∈ tf, K.lookup (ctD K d).2 = none
  empty : ∀ d ∈ tf, h.get? (ctD K d).2 = some { cls := .none, data := .fields #[] }
abbrev AlZ : Type := AlX × Bool
def seeZ (n : Nat) (fs : List (PySem.W.Frag → Bool)) (fn tf : List DfX) (g : Addr → Option Obj) : AlZ :=
  (seeX fs fn (frT g (cStatics :: sysModules :: asD g n)), tabsZ g tf (frT g (cStatics :: sysModules :: asD g n)))
theorem saysZ_of {n : Nat} {fs : List (PySem.W.Frag → Bool)} {fn tf : List DfX} {h : Heap} (e : seeZ n fs fn tf h.get? = (dueX fn, true)) : SaysZ fs fn tf h (frT h.get? (cStatics :: sysModules :: asD h.get? n)) := by
  have e1 : SaysX fs fn (frT h.get? (cStatics :: sysModules :: asD h.get? n)) := congrArg Prod.fst e
  have e2 : tabsZ h.get? tf (frT h.get? (cStatics :: sysModules :: asD h.get? n)) = true := congrArg Prod.snd e
  generalize hK : frT h.get? (cStatics :: sysModules :: asD h.get? n) = K at e1 e2
  have each : ∀ d ∈ tf, isRefC K (d.at_ K) = true ∧ PySem.W.codeHdIn K (ctD K d).1 (ctD K d).2 = true ∧ ∃ o, h.get? (ctD K d).2 = some o ∧ emptyTab o = true := fun d hd => by
    obtain ⟨z1, z⟩ := ba (List.all_eq_true.mp e2 d hd)
    obtain ⟨z2, z3⟩ := ba z
    refine ⟨z1, z2, ?_⟩
    cases q : h.get? (ctD K d).2 with
    | none =>
      rw [q] at z3
      cases z3
    | some o =>
      rw [q] at z3
      exact ⟨o, rfl, z3⟩
  refine ⟨e1, fun d hd => (each d hd).1, fun d hd => (each d hd).2.1, fun d hd => ?_, fun d hd => ?_⟩
  · obtain ⟨_, _, o, q, z⟩ := each d hd
    rw [← hK] at q ⊢
    exact frT_none q z
  · obtain ⟨_, _, o, q, z⟩ := each d hd
    rw [q, emptyTab_eq z]
def hookZ (n : Nat) (fs : List (PySem.W.Frag → Bool)) (fn tf : List DfX) : PySem.W.Hook where
  α := AlZ
  obs := fun s => seeZ n fs fn tf s.heap.get?
  val := fun _ => (dueX fn, true)
  says := fun _ h => ∃ K : PySem.W.Frag, K.In h ∧ SaysZ fs fn tf h K
  of := fun _ _ e => ⟨_, frT_in, saysZ_of e⟩
  keeps := fun _ _ _ ⟨K, hK, c⟩ k => ⟨K, PySem.W.Frag.In.keeps hK k, ⟨c.c, c.code, c.hd, c.out, fun d hd => k _ _ (c.empty d hd)⟩⟩
theorem seeZ_eq {n : Nat} {fs : List (PySem.W.Frag → Bool)} {fn tf : List DfX} {g : Addr → Option Obj} {s : Shared} (h : ∀ a, g a = s.heap.get? a) : seeZ n fs fn tf g = (hookZ n fs fn tf).obs s := by
  obtain rfl : g = s.heap.get? := funext h
  rfl
/-! ### the end of a law row, with tables -/
theorem walk_ofGT {l : PySem.W.OpenLaw} {n k : Nat} {q : Program} {loose : List PySem.Str} {XP : (PySem.Str → Option Value) → Heap → Prop} {YP : World → Heap → Prop} {d : DefRec}
    (hn : l.most = some n) (hn2 : n ≤ sizeLine) (hdf : d.params.defaults = []) (hr : Room k callerA)
    (F : ∀ (w : World) (mg : PySem.Str → Option Value) (fa : Addr) (h : Heap), YP w h → h.Ns mainGlobals mg → mg d.name = some (.ref fa) →
      ∃ (K : PySem.W.Frag) (ts : List (Addr × Addr)) (sp : Sp), K.In h ∧ (∀ p ∈ ts, h.get? p.2 = some { cls := .none, data := .fields #[] }) ∧ (∀ p ∈ ts, K.lookup p.2 = none) ∧ (∀ p ∈ ts, PySem.W.codeHdIn K p.1 p.2 = true) ∧
        (∀ (H : Hp) (a : Addr) (ns : List Int), ns.length ≤ n → (∀ p ∈ ts, H p.2 = some (.tbl #[])) → SqL K H a (ns.map V.int) → sp [.ref a] H (fun v _ => v = .bl true) fun _ _ _ => False) ∧
        ∀ base : Heap, K.In base → base.Ns mainGlobals mg → (∀ p ∈ ts, TabB base mg p.1 p.2) → FnG l.prog w K mg base CX0 k fa sp) :
    PySem.W.WalkO q loose XP YP l.row.toRowW d [] (fun f vs => PySem.call f vs) := by
  refine Att.attach_call hn hdf fun w s₀ s₁ mg mb fa o pm cd doc a vs ns G Y ho hd hcd hmg hobj hints hlen hg => ?_
  obtain ⟨K, ts, sp, KX, t1, t2, t3, hsp, hF⟩ := F w mg fa _ Y G.T.g hmg
  exact law_callGT KX G.T.g G.T.b G.T.builtins G.T.nolimit hg t1 t2 t3 G.T.bmain hobj hints (Nat.le_trans hlen hn2) hr hF fun H hT hS => hsp H a ns hlen hT hS
/-! ### a def that knows its own code object -/
theorem fng_ofC {P : Program} {w : World} {K : PySem.W.Frag} {mg : PySem.Str → Option Value} {base : Heap} {CX : CXT} {k : Nat} {f : Addr} {fd : FuncData} {sp : Sp} {name qual : PySem.Str} {params : Arguments} {body : List Stmt} {scope : Scope} {N ps : List PySem.Str}
    (F : FunD K name qual params body scope [] [] f fd) (S : FnScope N ps scope) (rc : isRefC K f = true)
    (bd : ∀ (s : Shared) (us : List Value), us.length = ps.length → BindsTo s fd ⟨us, []⟩ (ps.zip us)) (len : ∀ vs H Q E, sp vs H Q E → vs.length = ps.length)
    (hbody : ∀ (A : Around) (outer : List Env) (s : Shared) (H : Hp) (vs : List V) (Q : VK) (E : XK), A.guards = some [] →
      Room k (A.deeper (envOfC qual scope s.heap.objs.size f (.ref (codeAt K f)))) → sp vs H Q E →
      ∃ t, PSs (cxOf CX P w K mg base N qual scope f (.ref (codeAt K f)) A outer s H E) body t ∧ t { nx := fun _ H' => Q .non H', rt := Q } (start N vs) H) :
    FnG P w K mg base CX (k + 1) f sp := by
  obtain ⟨oc, od, dV, kV, doc, pm, an, cdv, ct, osl, rfl, lk, hcd, _, _⟩ := F.ex
  have ec : cdv = .ref (codeAt K f) := by
    unfold isRefC at rc
    unfold codeAt
    rw [lk] at rc ⊢
    cases cdv with
    | ref c => rfl
    | _ => cases rc
  intro A outer s H us vs Q E hg hr e0 r hsp
  have l1 := len _ _ _ _ hsp
  have l2 : us.length = ps.length := by rw [← r.length]; exact l1
  refine StX.run_bnd (G := fun zs H2 => zs = vs ∧ H2 = H) lk hcd S hr e0 (fun A' Ex Q' h => ?_) fun s2 H2 zs ⟨e1, e2⟩ hr' => ?_
  · exact bd s us l2 _ _ _ _ (h s H vs us e0 (Un.kept fun _ _ e => e) rfl (fun _ _ z => z) r l1 ⟨rfl, rfl⟩)
  · subst e1 e2
    rw [ec] at hr' ⊢
    exact hbody A outer s2 _ _ Q E hg hr' hsp
end Ca

set_option maxHeartbeats 1000000
namespace Q
open PySem PySem.Spec PyProof.Rows L2 Ca
/-! ### what Book tells of itself -/
section
variable {P : Program} {w : World} {K : PySem.W.Frag} {mg : PySem.Str → Option Value} {base : Heap}
theorem ok_lsnB {cnt : Empty → List Ro → Int} {f CT CB NT pQs fQs pTab fTab pCh fCh pCnt fCnt  fText fL fR : Addr} {fd fdQs fdTab fdCh fdCnt fdText fdL fdR : FuncData}  (F : FnP K "_law_seen" s_lsn f fd) (T : Tx K mg) (TQ : TT K mg CT NT) (c : BCl K CB)
    (hQs : PropOf K CB "questions" pQs fQs) (GQs : FnOk P w K mg base CX0 1 fQs fdQs ["self"] (spQ (IBQs CT CB QE))) (bQs : Binds K fdQs ["self"] [])
    (hTab : PropOf K CB "table" pTab fTab) (GTab : FnOk P w K mg base CX0 1 fTab fdTab ["self"] (spQ (IBTab CT CB QE))) (bTab : Binds K fdTab ["self"] [])
    (hCh : PropOf K CB "changes" pCh fCh) (GCh : FnOk P w K mg base CX0 1 fCh fdCh ["self"] (spQ (IBCh CT CB QE))) (bCh : Binds K fdCh ["self"] [])
    (hCnt : PropOf K CB "counts" pCnt fCnt) (GCnt : FnOk P w K mg base CX0 9 fCnt fdCnt ["self"] (spQ (IBCnt CT CB QE cnt))) (bCnt : Binds K fdCnt ["self"] []) 
    (Gtext : FnOk P w K mg base CX0 2 fText fdText ["self"] (spQ (ITText CT))) (btext : Binds K fdText ["self"] []) (Mtext : Meth K CT "text" fText)
    (hsL : PySem.W.findIn K (.ref CB) "__len__" = some (some (.ref fL))) (hfL : PySem.W.isFn K (.ref fL) = true) (GLen : FnOk P w K mg base CX0 3 fL fdL ["self"] (spQ (IBLen CT CB QE))) (bLen2 : Binds K fdL ["self"] [])
    (hsR : PySem.W.findIn K (.ref CB) "__repr__" = some (some (.ref fR))) (hfR : PySem.W.isFn K (.ref fR) = true) (GRep : FnOk P w K mg base CX0 3 fR fdR ["self"] (spQ (IBRep CT CB QE "Book"))) (bRep : Binds K fdR ["self"] []) : FnG P w K mg base CX0 11 f (spSeenB CT CB) := by
  refine fng_of F sc_lsn (FunD.bindsA (ps := ["_law_kind", "_law_book"]) F fun _ _ _ _ _ _ us hl => match us, hl with | [_, _], _ => rfl) (fun vs H Q E h => ?_) (fun cdv A outer s0 H vs Q E hg hr h => ?_)
  · obtain ⟨S, b, p, cap, st, n, v, rfl, _⟩ := h
    rfl
  obtain ⟨S, b, p, cap, st, n, v, rfl, fr, bv, q⟩ := h
  refine ⟨_, PSs.nox (pss_cons (ps_set (i := 2) sc_lsn.nd rfl (.inl rfl) (pe_prop (pv 1) c.cl hQs GQs (hr.mono (by decide)) bQs .nil pass0 rfl))
      (pss_cons (ps_set (i := 3) sc_lsn.nd rfl (.inl rfl) (pe_lst (pa_cons (pe_meth0 (pe_prop (pv 1) c.cl hTab GTab (hr.mono (by decide)) bTab .nil pass0 rfl) TQ.cl Mtext Gtext (hr.mono (by decide)) btext .nil pass0) (pa_cons (pe_prop (pv 1) c.cl hCh GCh (hr.mono (by decide)) bCh .nil pass0 rfl) (pa_cons (pe_callB (call_lenO hsL hfL GLen bLen2 (hr.mono (by decide)) : CallR _ _ (rLenO CB (spQ (IBLen CT CB QE)))) (by rfl) T.len bLen (pa_cons (pv 1) pa_nil)) (pa_cons (pe_callB (call_reprA T.sm hg hsR hfR GRep bRep (hr.mono (by decide)) : CallR _ _ (rReprA CB (spQ (IBRep CT CB QE "Book")))) (by rfl) T.repr bRepr (pa_cons (pv 1) pa_nil)) (pa_cons (pe_callB (call_isi : CallR _ _ (rIsi K)) (by rfl) T.isi bIsi (pa_cons (pv 2) (pa_cons (pe_bltn (v := .ty "tuple") (by rfl) T.tup bTup rfl) pa_nil))) pa_nil)))))))
      (pss_cons (ps_set (i := 3) sc_lsn.nd rfl (.inl rfl) (pe_op op_cat (pv 3) (pe_lst (pa_cons (pe_lc (own := [("_law_one", 4)]) (g := gName 4) rfl sc_lsn.nd (pi_tupQ (K := K) rfl (pv 2)) (blkOk_by (own := [("_law_one", 4)]) (N := n_lsn) (sc := (defScope s_lsn)) (by decide +kernel)) (fun _ _ _ _ _ => (pg_name (i := 4) sc_lsn.nd rfl (Or.inl rfl))) (fun _ _ _ _ _ => pts_nil) (fun _ _ _ _ _ => pe_never)) (pa_cons (pe_prop (pv 1) c.cl hCnt GCnt (hr.mono (by decide)) bCnt .nil pass0 rfl) pa_nil)))))
      (pss_one (ps_ret (pe_ifExp (pt_cmpR op_ge (pv 0) pe_int (nomark _)) (pe_op op_cat (pv 3) (pe_lst (pa_cons pe_never pa_nil))) (pv 3))))))), ?_⟩
  have lk := (bv.g.sro).l
  have gk := (bv.g.sro).g
  have tI : ∀ {F' : Hp} {σ : L2.St} {i : Int}, EvD (tC (.int i)) σ F' (.int i) := e_int
  refine go_setS (S := S) (P := fun H v => Rp H v (.tuple [])) fr (EvP.weak (e_prop (e_varP (P := BV CT CB QE b p none st n) rfl fun _ s => bv.mono mon_qe s) bv_qs) fun F v r => wv_nil r) fun v2 H1 s1 fr1 r2 => ?_
  have bvv : ∀ {σ : L2.St} {F : Hp}, Same (offS S H1) F → σ[1]? = some (some v) → EvP (tVar 1) σ F (BV CT CB QE b p none st n) := fun sm e => e_varP e fun _ s => bv.mono mon_qe (((offS_mono s1).trans sm).trans s)
  refine go_setS (S := S) (P := fun H v => Rp H v (.list [.str (txr st.ks), .int (n : Int), .int (st.ks.length : Int), .str (bsay "Book" st.ks.length), .bool true])) fr1 (e_lst (a_cons (e_meth0 (e_prop (bvv (Same.refl _) rfl) bv_tab) (tv_text gk (by omega))) (a_cons (e_prop (bvv (Same.refl _) rfl) bv_ch) (a_cons (e_lenB (bvv (Same.refl _) rfl) (by omega)) (a_cons (e_reprB (bvv (Same.refl _) rfl)) (a_cons (e_isiK (K := K) (n := "tuple") (fun _ => kTup (.tuple [])) (e_var rfl r2)) a_nil)))))) fun v3 H2 s2 fr2 r3 => ?_
  refine go_setS (S := S) (P := fun H v => Rp H v (.list [.str (txr st.ks), .int (n : Int), .int (st.ks.length : Int), .str (bsay "Book" st.ks.length), .bool true, .list [], .tuple []])) fr2 (e_cat (e_var rfl r3) (e_lst (ds := [.list [], .tuple []]) (a_cons (e_lcT (K := K) (enc := id) (as := []) (b := fun _ => true) (ev := id) (e_var rfl (r2.mono (offS_mono (S := S) s2))) (Nat.zero_le _) fun d hd => by cases hd) (a_cons (EvP.weak (P := fun H v => Rp H v (.tuple (st.qs.map fun q => .int (cnt q st.ks)))) (e_prop (bvv (offS_mono s2) rfl) (bv_cnt (cnt := cnt))) fun F v r => by
    have e := nil_qs st.qs
    rw [e] at r
    exact r) a_nil))) (by simp)) fun v4 H3 s3 fr3 r4 => ?_
  refine go_ret (P := fun H v => Rp H v (.list (seenD 0 st.ks (n : Int) cap))) fr3 (e_ifP (b := decide ((2 : Int) ≤ ((0 : Nat) : Int))) (b_test (e_cmp (g := fun i j => decide (j ≤ i)) (e_var rfl (.int _)) tI)) (fun z => ?_) fun z => ?_) fun v H4 s4 r => q v H4 (s1.trans (s2.trans (s3.trans s4))) r
  · cases z
  · exact eqD (e_var rfl r4) rfl
end
end Q

set_option maxHeartbeats 1000000
namespace Q
open PySem PySem.Spec PyProof.Rows L2 Ca LamX
theorem Fr.ext {S : Addr → Bool} {H H' : Hp} (f : Fr S H) (e : ExtN H H') : Fr S H' := fun a ha => by
  obtain ⟨o, h, m⟩ := f a ha
  exact ⟨o, e _ _ h (fun ps z => by rw [z] at m; exact m), m⟩
theorem Kp.fr2 {s : Addr} {S : Addr → Bool} {H H' : Hp} (k : Kp s H H') (hs : Src H' s) (f : Fr S H) : Fr S H' := k.fr hs f
/-- all but the book and the tables is kept -/
def KbE (b p : Addr) (H H' : Hp) : Prop := ∀ x o, x ≠ b → x ≠ p → H x = some o → (∀ ps, o ≠ .tbl ps) → H' x = some o
theorem KbE.of {b p : Addr} {H H1 H2 : Hp} (e : ExtN H H1) (k : Kb b p H1 H2) : KbE b p H H2 := fun x o n1 n2 h t => k x o n1 n2 (e _ _ h t)
theorem KbE.off {b p : Addr} {S : Addr → Bool} {H H' : Hp} (k : KbE b p H H') (hb : S b = true) (hp : S p = true) : ExtN (offS S H) (offS S H') := fun x o e t => by
  unfold offS at e ⊢
  by_cases hx : S x = true
  · rw [if_pos hx] at e
    cases e
  · rw [if_neg hx] at e ⊢
    exact k x o (fun z => hx (z ▸ hb)) (fun z => hx (z ▸ hp)) e t
theorem KbE.src {b p s : Addr} {H H' : Hp} (k : KbE b p H H') (n1 : s ≠ b) (n2 : s ≠ p) (h : Src H s) : Src H' s := by
  obtain ⟨x, y, z, e⟩ := h
  exact ⟨x, y, z, k _ _ n1 n2 e (fun ps w => by cases w)⟩
theorem src_ext {H H' : Hp} {s : Addr} (hs : Src H s) (e : ExtN H H') : Src H' s := by
  obtain ⟨a, b, c, h⟩ := hs
  exact ⟨a, b, c, e _ _ h (fun _ z => nomatch z)⟩
theorem sql_ext {K : PySem.W.Frag} {H H' : Hp} {a : Addr} {xs : List V} (h : SqL K H a xs) (k : ExtN H H') : SqL K H' a xs := by
  rcases h with (h | ⟨o, h⟩) | h
  · exact .inl (.inl (k _ _ h (fun _ z => nomatch z)))
  · exact .inl (.inr ⟨o, k _ _ h (fun _ z => nomatch z)⟩)
  · exact .inr h
theorem tabs_kb {T : List (Addr × PySem.Str)} {H H' : Hp} {b p C dx : Addr} {fs : List (PySem.Str × V)} {xs : List V} (t : Tabs T H) (hb : H b = some (.ins C dx fs)) (hp : H p = some (.lst xs)) (k : Kb b p H H') : Tabs T H' := fun q hq => by
  obtain ⟨ps, h1, h2, h3⟩ := t q hq
  refine ⟨ps, k _ _ (ne_of h1 hb (fun z => nomatch z)) (ne_of h1 hp (fun z => nomatch z)) h1, h2, fun pos cv hc => ?_⟩
  obtain ⟨c, e1, e2⟩ := h3 pos cv hc
  exact ⟨c, e1, k _ _ (ne_of e2 hb (fun z => by unfold CodeO at z; cases z)) (ne_of e2 hp (fun z => by unfold CodeO at z; cases z)) e2⟩
theorem tabs_kp {T : List (Addr × PySem.Str)} {H H' : Hp} {p : Addr} {xs : List V} (t : Tabs T H) (hp : H p = some (.lst xs)) (k : Kp p H H') : Tabs T H' := fun q hq => by
  obtain ⟨ps, h1, h2, h3⟩ := t q hq
  refine ⟨ps, k _ _ (ne_of h1 hp (fun z => nomatch z)) h1, h2, fun pos cv hc => ?_⟩
  obtain ⟨c, e1, e2⟩ := h3 pos cv hc
  exact ⟨c, e1, k _ _ (ne_of e2 hp (fun z => by unfold CodeO at z; cases z)) e2⟩
theorem tabs_src {T : List (Addr × PySem.Str)} {H H' : Hp} {s : Addr} (t : Tabs T H) (h : Src H s) (k : Kp s H H') : Tabs T H' := by
  obtain ⟨x, y, z, e⟩ := h
  exact tabs_kp t e k
section
variable {α : Type} {QP : α → Hp → V → Prop} {CT CB b p : Addr} {S : Addr → Bool} {cap : Option Int} {st : BSt α} {past : List (BSt α)} {H H' : Hp}
theorem BD.ins (h : BD CT CB QP S b p cap st past H) : ∃ dx fs, H b = some (.ins CB dx fs) ∧ ∀ m : PySem.Str, (m == "held") = false ∧ (m == "watched") = false ∧ (m == "past") = false ∧ (m == "cap") = false → fs.lookup m = none := by
  obtain ⟨dx, t, w, xs, h1, _⟩ := h.ex
  exact ⟨dx, _, h1, fun m z => bf_no _ _ _ _ z⟩
theorem BD.lst (h : BD CT CB QP S b p cap st past H) : ∃ xs, H p = some (.lst xs) := by
  obtain ⟨dx, t, w, xs, h1, h2, _⟩ := h.ex
  exact ⟨xs, h2⟩
theorem BD.ext (m : QMon QP) (h : BD CT CB QP S b p cap st past H) (e : ExtN H H') : BD CT CB QP S b p cap st past H' := h.keep m (fun o z => by
    obtain ⟨dx, fs, h1, _⟩ := h.ins
    rw [h1] at z
    cases z
    exact e _ _ h1 (fun ps w => by cases w)) (fun o z => by
    obtain ⟨xs, h1⟩ := h.lst
    rw [h1] at z
    cases z
    exact e _ _ h1 (fun ps w => by cases w)) (ext_off e)
theorem BD.src_ne {s : Addr} (h : BD CT CB QP S b p cap st past H) (hs : Src H s) (n : p ≠ s) : b ≠ s := fun z => by
  obtain ⟨dx, fs, h1, _⟩ := h.ins
  obtain ⟨x, y, c, e⟩ := hs
  rw [z, e] at h1
  cases h1
end
/-! ### what draws -/
def BoolP : Hp → V → Prop := fun _ v => ∃ b, v = .bl b
section
variable {K : PySem.W.Frag} {s : Addr} {σ : L2.St} {F : Hp} {tk tm tc te : TE} {E : XK}
theorem k_is {lo hi z : Int} (h : EvK s te σ F (IntP lo hi)) : EvK s (tOp rEq te (tC (.int z))) σ F BoolP := fun S H1 f hS hc sm Q q => h S H1 f hS hc sm _ fun v H2 k2 c2 ⟨x, e, _⟩ => by
  subst e
  exact ⟨rfl, q _ H2 k2 c2 ⟨_, rfl⟩⟩
theorem k_listed {i kind m : Nat} {cap : Int} (hi : σ[i]? = some (some (.ref s))) (hk : EvD tk σ F (.int (kind : Int))) (hm : EvD tm σ F (.int (m : Int))) (hc : EvD tc σ F (.int cap)) (m12 : m ≤ 12) (c1 : 1 ≤ cap) (c9 : cap ≤ 10000) :
    EvK s (tCall spListed [] E (tCons (tVar i) (tCons tk (tCons tm (tCons tc tNil))))) σ F (LstP kind m cap) := fun S H1 f hS hcs sm Q q =>
  ⟨_, hi, a_cons hk (a_cons hm (a_cons hc a_nil)) S H1 f sm _ fun vs H2 s2 r => by
    obtain ⟨x, y, z, rfl, r1, r2, r3⟩ := rpa3 r
    cases r1
    cases r2
    cases r3
    exact ⟨S, s, kind, m, cap, rfl, f.mono s2, hS, src_same hcs s2, m12, c1, c9, fun x H3 k3 c3 p3 => q x H3 ((Kp.of s2).trans k3) c3 p3⟩⟩
end
/-! ### a book tells of itself -/
section
variable {K : PySem.W.Frag} {σ : L2.St} {F : Hp} {tk tb : TE} {E : XK} {CT CB b p : Addr} {st : BSt Empty} {n kind : Nat} {cap : Int} {fc : Int → Option Int}
theorem e_seenK (hk : EvD tk σ F (.int (kind : Int))) (hb : EvP tb σ F (BV CT CB QE b p (fc cap) st n)) : EvD (tCall (spSeenK CT CB kind fc) [] E (tCons tk (tCons tb tNil))) σ F (.list (seenD kind st.ks (n : Int) cap)) := fun S H1 f sm Q q =>
  hk S H1 f sm _ fun x H2 s2 rx => by
    cases rx
    exact hb S H2 (f.mono s2) (sm.trans (offS_mono s2)) _ fun v H3 s3 bv => ⟨S, b, p, cap, st, n, v, rfl, f.mono (s2.trans s3), bv, fun v' H' s' r => q v' H' (s2.trans (s3.trans s')) r⟩
end
end Q

set_option maxHeartbeats 1000000
namespace Q
open PySem PySem.Spec PyProof.Rows L2 Ca LamX
abbrev tb0 (K : PySem.W.Frag) (f : Addr) : Addr := tabAt K (codeAt K f)
abbrev lamQ (x : PySem.Str) : PySem.Str := (x ++ (".<locals>." : PySem.Str)) ++ ("<lambda>" : PySem.Str)
def spLawT (K : PySem.W.Frag) (T : List (Addr × PySem.Str)) : Sp := fun vs H Q _ => ∃ (a : Addr) (ns : List Int), vs = [.ref a] ∧ SqL K H a (ns.map V.int) ∧ ns.length ≤ 63 ∧ (∀ p ∈ T, H p.1 = some (.tbl #[])) ∧ ∀ H', Q (.bl true) H'
theorem tabs_nil {T : List (Addr × PySem.Str)} {H : Hp} (h : ∀ p ∈ T, H p.1 = some (.tbl #[])) : Tabs T H := fun p hp => TabS.nil (h p hp)
theorem tabs_new {T : List (Addr × PySem.Str)} {H : Hp} {p : Addr} {xs : List V} (t : Tabs T H) (h : H p = none) : Tabs T (upd H p (.lst xs)) := t.ext (same_new h)
theorem sql_off {K : PySem.W.Frag} {H : Hp} {a p : Addr} {xs : List V} {o : HO} (h : SqL K H a xs) (n : H p = none) : SqL K (offS (frP p) (upd H p o)) a xs := by
  have e : ∀ b v, H b = some v → offS (frP p) (upd H p o) b = some v := fun b v z => by
    have nb := ne_of_none z n
    rw [offS_at (decide_eq_false nb), upd_ne nb]
    exact z
  rcases h with (h | ⟨o, h⟩) | h
  · exact .inl (.inl (e _ _ h))
  · exact .inl (.inr ⟨o, e _ _ h⟩)
  · exact .inr h
theorem sql_mono {K : PySem.W.Frag} {H H' : Hp} {a : Addr} {xs : List V} (h : SqL K H a xs) (k : Same H H') : SqL K H' a xs := sql_ext h (.of k)
/-! ### a book is made -/
section
variable {α : Type} {QP : α → Hp → V → Prop} {K : PySem.W.Frag} {CT CB NT : Addr} {σ : L2.St} {S : Addr → Bool} {H : Hp} {D : L2.Ends} {u : TS} {te : TE} {i : Nat} {ks : List Ro} {T : List (Addr × PySem.Str)}
theorem go_book {s : Addr} (f : Fr S H) (hc : Src H s) (tT : Tabs T H) (g : GoodT ks) (h : EvP te σ (offS S H) (TV CT ks)) (k : ∀ b p H', Same (offS S H) (offS (addS (addS S b) p) H') → Same H H' → Tabs T H' → Src H' s → p ≠ s → b ≠ s → Fr (addS (addS S b) p) H' → BD CT CB QP (addS (addS S b) p) b p none ⟨ks, []⟩ [] H' → u D (σ.set i (some (.ref b))) H') :
    tSeq (tAsg (tMake CB (spBInit CT CB QP NT) [] E0 (tCons te tNil)) (gName i)) u D σ H := h S H f (Same.refl _) _ fun v H1 s1 tv x dx hx hd ne => by
  have n2 : upd H1 dx (.own x) x = none := by rw [upd_ne (Ne.symm ne)]; exact hx
  have sA : Same H1 (upd (upd H1 dx (.own x)) x (.ins CB dx [])) := (same_new hd).trans (same_new n2)
  have fA := (f.mono s1).mono sA
  have sx : S x = false := (f.mono s1).new hx
  refine ⟨S, x, dx, v, ks, true, rfl, fA, sx, upd_same, .inl ⟨rfl, tv.mono (offS_mono sA), g⟩, (fun z => by cases z), fun _ p H' hp kp bd => ⟨rfl, ?_⟩⟩
  have s1H : Same H1 H' := fun y o e => kp y o (ne_of_none e hx) (sA _ _ e)
  have sH := s1.trans s1H
  have hp1 : H p = none := by
    cases e : H p with
    | none => rfl
    | some o =>
      rw [sA _ _ (s1 _ _ e)] at hp
      cases hp
  have ps : p ≠ s := fun z => by
    obtain ⟨a, b, c, e⟩ := hc
    rw [z, e] at hp1
    cases hp1
  have hx0 : H x = none := by
    cases e : H x with
    | none => rfl
    | some o =>
      rw [s1 _ _ e] at hx
      cases hx
  have xs : x ≠ s := fun z => by
    obtain ⟨a, b, c, e⟩ := hc
    rw [z, e] at hx0
    cases hx0
  have fr' : Fr (addS (addS S x) p) H' := fun a ha => by
    by_cases z1 : a = x
    · rw [z1]
      obtain ⟨dx, t, w, ys, h1, _⟩ := bd.ex
      exact ⟨_, h1, bf_mut _ _ _ _ _ _⟩
    · by_cases z2 : a = p
      · rw [z2]
        obtain ⟨ys, h1⟩ := bd.lst
        exact ⟨_, h1, trivial⟩
      · refine (f.mono sH) a ?_
        simpa [addS, z1, z2] using ha
  have off : Same (offS S H) (offS (addS (addS S x) p) H') := fun y o e => by
    have hy : S y = false := by
      cases z : S y with
      | false => rfl
      | true =>
        unfold offS at e
        rw [if_pos z] at e
        cases e
    rw [offS_at hy] at e
    have y1 : y ≠ x := ne_of_none e hx0
    have y2 : y ≠ p := ne_of_none e hp1
    rw [offS_at (by simp [addS, hy, y1, y2])]
    exact sH _ _ e
  exact k x p H' off sH (tT.ext sH) (src_same hc sH) ps xs fr' bd
end
end Q



set_option maxHeartbeats 1000000
namespace Q
open PySem PySem.Spec PyProof.Rows L2 Ca
/-! texts of tables can be shown -/
theorem ascii_num {i : Int} (h0 : 0 ≤ i) (h9 : i ≤ 10000) : Ascii (PySem.Str.ofString (toString i)) := by
  obtain ⟨n, rfl⟩ := Int.eq_ofNat_of_zero_le h0
  intro c hc
  have e : (PySem.Str.ofString (toString ((n : Nat) : Int))).cps.toList = TL.numL n := TL.tl_num n
  rw [e] at hc
  have := (TL.numL_digits n c hc).2
  exact Nat.lt_of_le_of_lt (Nat.le_trans this (by decide : _ ≤ 100)) (by decide)
theorem ascii_rowT {r : Ro} (g : GoodR r) : Ascii (rowT r) := by
  have := g.l0; have := g.l9; have := g.r0; have := g.r9; have := g.n1; have := g.n9
  have sp : Ascii " " := ascii_ofs (by decide +kernel)
  have lf : Ascii "\n" := ascii_ofs (by decide +kernel)
  have em : Ascii PySem.Str.empty := fun c hc => by cases hc
  unfold rowT rowP
  simp only [List.foldl_cons, List.foldl_nil]
  exact ascii_app (ascii_app (ascii_app (ascii_app (ascii_app (ascii_app (ascii_app (ascii_app em (ascii_kind g.k)) sp) (ascii_num (by omega) (by omega))) sp) (ascii_num (by omega) (by omega))) sp) (ascii_num (by omega) (by omega))) lf
theorem ascii_txr {rs : List Ro} (g : ∀ r ∈ rs, GoodR r) : Ascii (txr rs) := by
  unfold txr
  rw [TL.join_eq]
  refine ascii_join (fun c hc => by cases hc) fun x hx => ?_
  obtain ⟨r, hr, rfl⟩ := List.mem_map.mp hx
  exact ascii_rowT (g r hr)
end Q

set_option maxHeartbeats 1000000
namespace Q
open PySem PySem.Spec PyProof.Rows L2 Ca LamX
theorem fit_txr {ks : List Ro} (g : ∀ a ∈ ks, GoodR a) (h : ks.length ≤ 12) : Fit (.str (txr ks)) 2 7000 := by
  exact (fit_str (ascii_txr g) (txr_len g h)).mono (by omega) (by omega)
theorem say_ascii : ∀ kind : Nat, kind < 4 → ∀ n : Nat, n ≤ 12 → (bsay (nameOf kind) n).cps.toList.all (fun c => decide (c < 16 ^ 8)) = true ∧ (bsay (nameOf kind) n).length ≤ 40 := by decide +kernel
theorem fit_seen {kind : Nat} {ks : List Ro} {ch cap : Int} (k4 : kind < 4) (sk : SRo 12 ks) (c0 : 0 ≤ ch) (c9 : ch ≤ 1000000) (p0 : 0 ≤ cap) (p9 : cap ≤ 1000000) : Fit (.list (seenD kind ks ch cap)) 50 1000000 := by
  obtain ⟨s1, s2⟩ := say_ascii kind k4 ks.length sk.l
  refine (fit_list (k := 2) (n := 7000) (m := 8) (fun d hd => ?_) ?_).mono (by omega) (by omega)
  · unfold seenD at hd
    rw [List.mem_append] at hd
    rcases hd with hd | hd
    · simp only [List.mem_cons, List.not_mem_nil, or_false] at hd
      rcases hd with rfl | rfl | rfl | rfl | rfl | rfl | rfl
      · exact fit_txr sk.g sk.l
      · exact (fit_int (by omega)).mono (by omega) (by omega)
      · exact (fit_int (by have := sk.l; omega)).mono (by omega) (by omega)
      · exact (fit_str (ascii_ofs s1) s2).mono (by omega) (by omega)
      · exact (fit_bool _).mono (by omega) (by omega)
      · exact (fit_list (k := 0) (n := 0) (m := 0) (fun d h => by cases h) (Nat.le_refl _)).mono (by omega) (by omega)
      · exact (fit_tuple (k := 0) (n := 0) (m := 0) (fun d h => by cases h) (Nat.le_refl _)).mono (by omega) (by omega)
    · by_cases h : 2 ≤ kind
      · rw [if_pos h, List.mem_singleton] at hd
        rw [hd]
        exact (fit_int (by omega)).mono (by omega) (by omega)
      · rw [if_neg h] at hd
        cases hd
  · unfold seenD
    rw [List.length_append]
    split <;> simp
theorem fit_w1 {x : PySem.Str} (h : x.cps.toList.all (fun c => decide (c < 16 ^ 8)) = true) (l : x.length ≤ 20) : Fit (.list [.str x]) 50 1000000 := (fit_list (k := 0) (n := 202) (m := 1) (fun d hd => by rw [List.mem_singleton.mp hd]; exact fit_str (m := 20) (ascii_ofs h) l) (Nat.le_refl _)).mono (by omega) (by omega)
theorem fit_told : Fit (.list [.str "told", .none]) 50 1000000 := (fit_list (k := 0) (n := 202) (m := 2) (fun d hd => by
  simp only [List.mem_cons, List.not_mem_nil, or_false] at hd
  rcases hd with rfl | rfl
  · exact fit_str (m := 20) (ascii_ofs (by decide +kernel)) (by decide +kernel)
  · exact fit_none.mono (by omega) (by omega)) (Nat.le_refl _)).mono (by omega) (by omega)
section
variable {σ : L2.St} {S : Addr → Bool} {H : Hp} {D : L2.Ends} {u : TS} {tt : L2.TT} {t1 t2 : TE} {i : Nat} {b : Bool}
theorem go_ifE {R : Hp → VK → Prop} (f : Fr S H) (h : EvB tt σ (offS S H) b) (h1 : ∀ H', Same H H' → Fr S H' → ∀ Q : VK, R H' Q → t1 σ H' Q) (h2 : ∀ H', Same H H' → Fr S H' → ∀ Q : VK, R H' Q → t2 σ H' Q) (k : ∀ H', Same H H' → Fr S H' → R H' (fun v H'' => u D (σ.set i (some v)) H'')) :
    tSeq (tIfS tt (tAsg t1 (gName i)) (tAsg t2 (gName i))) u D σ H := h S H f (Same.refl _) _ fun H' s => by
  cases b with
  | true =>
    rw [if_pos rfl]
    exact h1 H' s (f.mono s) _ (k H' s (f.mono s))
  | false =>
    rw [if_neg (by decide)]
    exact h2 H' s (f.mono s) _ (k H' s (f.mono s))
end
end Q

set_option maxHeartbeats 400000
namespace Q
open PySem PySem.Spec PyProof.Rows L2 He Ca
/-! facts that the kernel reads: instances called, exceptions, classes -/
def callsB (x : PySem.Str) (K : PySem.W.Frag) : Bool :=
  eqO (PySem.W.findIn K (.ref (ga K x)) "__call__") (some (some (.ref (ma K (ga K x) "__call__")))) && (PySem.W.isFn K (.ref (ma K (ga K x) "__call__")) && PySem.W.fnIn K (ma K (ga K x) "__call__"))
theorem calls_ok {x : PySem.Str} {K : PySem.W.Frag} (h : callsB x K = true) : StX.CallO K (ga K x) (ma K (ga K x) "__call__") := by
  obtain ⟨h1, h⟩ := ba h
  obtain ⟨h2, h3⟩ := ba h
  exact ⟨eqO_ok h1, h2, h3⟩
def isTB (x : PySem.Str) (K : PySem.W.Frag) : Bool :=
  (eqO (PySem.W.findIn K (.ref (ga K x)) "__class__") (some (some (.builtin "object.__class__"))) && eqO (PySem.W.specialIn K (.builtin "object.__class__") "__get__") (some (some (.builtin "getset_descriptor.__get__")))) &&
    ((decide (PySem.W.takesIn K (.builtin "object.__class__") = some true) && decide (PySem.W.mroIn K (ga K x) (.type "object") = some true)) && (decide (PySem.W.kitOne K (.ref (ga K x)) (.ref (ga K x)) = some true) && tyN.all fun T => decide (PySem.W.kitOne K (.type T) (.ref (ga K x)) = some false)))
theorem isT_ok {x : PySem.Str} {K : PySem.W.Frag} (h : isTB x K = true) : IsC K (ga K x) := by
  obtain ⟨ha, hb⟩ := ba h
  obtain ⟨h1, h2⟩ := ba ha
  obtain ⟨hc, hd⟩ := ba hb
  obtain ⟨h3, h4⟩ := ba hc
  obtain ⟨h5, h6⟩ := ba hd
  exact { ha := eqO_ok h1, hn := eqO_ok h2, htk := of_decide_eq_true h3, hm := of_decide_eq_true h4, kit := of_decide_eq_true h5, kd := fun T hT => of_decide_eq_true (List.all_eq_true.mp h6 T hT) }
def exB (x y : PySem.Str) (b : Bool) (K : PySem.W.Frag) : Bool := decide (PySem.W.exmOne K (.ref (ga K x)) (.ref (ga K y)) = some b)
theorem ex_ok {x y : PySem.Str} {b : Bool} {K : PySem.W.Frag} (h : exB x y b K = true) : PySem.W.exmOne K (.ref (ga K x)) (.ref (ga K y)) = some b := of_decide_eq_true h
def slotB (n x : PySem.Str) (K : PySem.W.Frag) : Bool := eqO (PySem.W.findIn K (.ref (ga K x)) n) (some (some (.ref (ma K (ga K x) n)))) && PySem.W.isFn K (.ref (ma K (ga K x) n))
theorem slot_ok {n x : PySem.Str} {K : PySem.W.Frag} (h : slotB n x K = true) : PySem.W.findIn K (.ref (ga K x)) n = some (some (.ref (ma K (ga K x) n))) ∧ PySem.W.isFn K (.ref (ma K (ga K x) n)) = true := (ba h).imp (fun z => eqO_ok z) id
end Q

set_option maxHeartbeats 1000000
/-! super().m(..) as the last or any statement of a method's own body -/
namespace SuX
open PySem PySem.Spec PyProof.Rows L2
/-- the names of a method that says super() -/
structure SScope (N P : List Str) (sc : Scope) : Prop where
  kind : sc.kind = .function
  co : sc.isCoroutine = false
  gen : sc.isGenerator = false
  nd : N.Nodup
  pre : N.take P.length = P
  par : ∀ x ∈ P, sc.names.lookup x = some .local
  nocell : ∀ q ∈ sc.names, ¬ q.2 = .cell
  only : ∀ y ∈ sc.names, y.2 = .free → y.1 = ("__class__" : Str)
  sup : sc.names.lookup ("super" : Str) = some .globalImplicit
  cls : sc.names.lookup ("__class__" : Str) = some .free
/-- the program's file -/
structure PFile (P : Program) (file : Str) : Prop where
  same : ((P.main.file : Str) == file) = true
  top : (P.main.scope.names.lookup ("super" : Str)).isSome = false
/-- a method of the class at D that says super() -/
structure FunS (K : PySem.W.Frag) (x qual : Str) (params : Arguments) (body : List Stmt) (scope : Scope) (dvs : List V) (file : Str) (D f : Addr) (fd : FuncData) : Prop where
  ex : ∃ (oc : Value) (od : Option Addr) (dV kV doc pm : Value) (an : Option Addr) (cda : Addr) (ct : Value) (osl : Array (Option Value)) (cc : Addr) (cl : Value) (cld : Option Addr) (csl : Array (Option Value)) (ccl : Value) (ccd : Option Addr) (ccs : Array (Option Value)) (vs : Array Value) (tf : Tok),
    fd = PySem.W.ksFn x qual params body scope dV kV doc pm an (.ref cda) ct cc ∧ K.lookup f = some ⟨oc, od, .func fd, osl⟩ ∧ PySem.W.codeIn K (.ref cda) qual = true ∧ DflV K dV dvs ∧
    K.lookup cc = some ⟨cl, cld, .cell (some (.ref D)), csl⟩ ∧ K.lookup cda = some ⟨ccl, ccd, .fields vs, ccs⟩ ∧ vs[2]? = some (.str file tf)
  kp : true = PySem.W.keepIn K (.ref f)
/-- what the text says of super() there -/
structure SupK (K : PySem.W.Frag) (mg : Str → Option Value) (C D : Addr) : Prop where
  d : ∃ cd, PySem.W.clsIn K D = some cd
  sub : PySem.W.mroIn K C (.ref D) = some true
  free : mg "super" = none
  st : PySem.W.nsIn K PySem.cStatics "thirdparty.any" = some none
/-- super().m of an instance of C within a method of D: the def at g -/
structure SupM (K : PySem.W.Frag) (C D : Addr) (m : Str) (g : Addr) : Prop where
  at_ : PySem.W.ks_superIn K C D m = some (some (.ref g))
  ty : PySem.W.typeIn K (.ref g) = some (.type "function")
  fi : PySem.W.fnIn K g = true
  nc : (m == ("__class__" : Str)) = false
abbrev sEnv (qual : Str) (scope : Scope) (L f cda cc : Addr) : Env := PySem.W.ksEnv qual scope L f (.ref cda) cc
def cxS (CX : CXT) (P : Program) (w : World) (K : PySem.W.Frag) (mg : Str → Option Value) (base : Heap) (N : List Str) (qual : Str) (scope : Scope) (f cda cc : Addr) (A : Around) (outer : List Env) (s : Shared) (H : Hp) (E : XK) : Cx where
  prog := P
  w := w
  K := K
  mg := mg
  base := base
  A := A.deeper (sEnv qual scope s.heap.objs.size f cda cc)
  N := N
  s_0 := s
  H_0 := H
  env := sEnv qual scope s.heap.objs.size f cda cc
  outer := outer
  stack := sEnv qual scope s.heap.objs.size f cda cc :: outer
  ex := []
  calm := true
  fn := fun _ => false
  pn := []
  xe := fun e s' => wpAny (model P w) (A.deeper (sEnv qual scope s.heap.objs.size f cda cc)) (leaving (sEnv qual scope s.heap.objs.size f cda cc) e) (fun _ s'' => CX outer H s E e s'') (fun e' s'' => CX outer H s E e' s'') s'
theorem start_get {N : List Str} {vs : List V} {i : Nat} {v : V} (h : (L2.start N vs)[i]? = some (some v)) : vs[i]? = some v := by
  unfold L2.start at h
  by_cases hi : i < vs.length
  · rw [List.getElem?_append_left (by simpa using hi), List.getElem?_map] at h
    cases e : vs[i]? with
    | none =>
      rw [e] at h
      cases h
    | some a =>
      rw [e] at h
      cases h
      rfl
  · rw [List.getElem?_append_right (by simpa using hi), List.getElem?_replicate] at h
    split at h <;> cases h
theorem zip_look : ∀ {ps : List Str} {us : List Value} {i : Nat} {x : Str} {u : Value}, ps.Nodup → ps.length = us.length → ps[i]? = some x → us[i]? = some u → (ps.zip us).reverse.lookup x = some u := by
  intro ps us i x u nd hl hp hu
  have hm : (x, u) ∈ (ps.zip us).reverse := by
    rw [List.mem_reverse]
    have : (ps.zip us)[i]? = some (x, u) := by
      rw [List.getElem?_zip_eq_some]
      exact ⟨hp, hu⟩
    exact List.mem_of_getElem? this
  have nd2 : ((ps.zip us).reverse.map (·.1)).Nodup := by
    rw [List.map_reverse, List.map_fst_zip (by omega)]
    exact (List.reverse_perm ps).nodup_iff.mpr nd
  generalize (ps.zip us).reverse = l at hm nd2
  induction l with
  | nil => cases hm
  | cons p l ih =>
    rw [List.map_cons, List.nodup_cons] at nd2
    rcases (List.mem_cons (b := p)).mp hm with e | e
    · rw [← e]
      simp
    · have : (x == p.1) = false := beq_eq_false_iff_ne.mpr fun z => nd2.1 (z ▸ List.mem_map_of_mem (f := (·.1)) e)
      rw [List.lookup_cons, this]
      exact ih e nd2.2
theorem startS {CX : CXT} {P : Program} {w : World} {K : PySem.W.Frag} {mg : Str → Option Value} {base : Heap} {N ps : List Str} {qual : Str} {scope : Scope} {f cda cc : Addr} {A : Around} {outer : List Env} {s : Shared} {H : Hp} {E : XK} {us : List Value} {vs : List V} {h1 : Heap} {tk : Nat} {oc : Obj} {v0 : Option Value}
    (S : SScope N ps scope) (hd : A.handled = none) (e0 : Env0 P w K mg base A outer s H) (hl : vs.length = ps.length) (r : Vals vs us) (hcc : base.get? cc = some oc) (hcd : oc.data = .cell v0)
    (hns : h1.Ns s.heap.objs.size fun x => (ps.zip us).reverse.lookup x) (kp : ∀ b o, s.heap.get? b = some o → h1.get? b = some o) :
    Inv (cxS CX P w K mg base N qual scope f cda cc A outer s H E) [] (L2.start N vs) H { s with heap := h1, toks := tk } := by
  have hpl : ps.length ≤ N.length := by
    have := congrArg List.length S.pre
    rw [List.length_take] at this
    omega
  have noA : ∀ b : Addr, b ∉ (cxS CX P w K mg base N qual scope f cda cc A outer s H E).ex := fun b z => absurd (show b ∈ ([] : List Addr) from z) (by simp)
  have one : ∀ {y c}, (cxS CX P w K mg base N qual scope f cda cc A outer s H E).env.cells.lookup y = some c → y = ("__class__" : Str) ∧ c = cc := fun {y c} e => by
    have e : List.lookup y [(("__class__" : Str), cc)] = some c := e
    rw [List.lookup_cons] at e
    split at e
    · rename_i q
      exact ⟨beq_iff_eq.mp q, (Option.some.inj e).symm⟩
    · cases e
  have cH : H cc = none := (e0.bs cc oc hcc).2
  refine ⟨⟨e0.mod, S.kind, rfl, rfl, Nat.le_refl _, fun y z c a b => (one a).1.trans (one b).1.symm, fun y hy => ?_, fun y c z _ => ?_, fun _ => hd, Around.frames_deeper e0.frames, .inr ⟨rfl, rfl⟩, fun b z => absurd z (noA b), e0.bs, e0.bsz, fun b _ _ => noA b, fun b z => absurd z (noA b), e0.funs, e0.frf⟩,
    rfl, e0.bare, Un.kept kp, ⟨_, hns, fun i y v a1 a2 a3 => ?_⟩, fun y c e => ?_, e0.hok.fresh (Nat.le_refl _), fun y c e => ?_, fun p hp => absurd (show p ∈ ([] : List (Addr × Obj)) from hp) (by simp), e0.hok.kept kp, ?_⟩
  · have hc : scope.names.lookup y = some .cell ∨ scope.names.lookup y = some .free := hy
    rcases hc with hy | hy
    · exact absurd rfl (S.nocell (y, _) (PySem.mem_of_lookup hy))
    · have := S.only _ (PySem.mem_of_lookup hy) rfl
      have e : y = ("__class__" : Str) := this
      refine ⟨cc, ?_⟩
      show List.lookup y [(("__class__" : Str), cc)] = some cc
      rw [e]
      rfl
  · have z : false = true := z
    cases z
  · have ha := start_get a2
    obtain ⟨u, hu, ru⟩ := r.get ha
    have hi : i < ps.length := by
      rw [← hl]
      exact (List.getElem?_eq_some_iff.mp ha).1
    have hp : ps[i]? = some y := (by
      rw [← S.pre]
      rw [List.getElem?_take_of_lt (l := N) (by omega)]
      exact a1)
    have ndP : ps.Nodup := by
      rw [← S.pre]
      exact List.Nodup.sublist (List.take_sublist ps.length N) S.nd
    exact ⟨u, ru, .inl ⟨S.par y (List.mem_of_getElem? hp), zip_look ndP (by rw [← hl, r.length]) hp hu⟩⟩
  · obtain ⟨_, rfl⟩ := one e
    exact ⟨v0, oc, kp _ _ (e0.bs _ oc hcc).1, hcd⟩
  · obtain ⟨_, rfl⟩ := one e
    exact cH
  · unfold L2.start
    show _ = N.length
    rw [List.length_append (as := vs.map some), List.length_map, List.length_replicate]
    omega
/-! ### statements of the body at hand -/
structure PA1 (X : Cx) (c : Code) (st : Stmt) (t : TS) : Prop where
  run : ∀ (pins : List (Addr × Obj)) (s : Shared) (σ : L2.St) (H : Hp) (D : Ends), Inv X pins σ H s → t D σ H → PySem.wpAt (model X.prog X.w) X.A c (exec st X.env) (L2.SP X pins D) X.xe s
structure PAs (X : Cx) (c : Code) (st : List Stmt) (t : TS) : Prop where
  run : ∀ (pins : List (Addr × Obj)) (s : Shared) (σ : L2.St) (H : Hp) (D : Ends), Inv X pins σ H s → t D σ H → PySem.wpAt (model X.prog X.w) X.A c (execs st X.env) (L2.SP X pins D) X.xe s
section
variable {X : Cx} {c : Code} {st : Stmt} {rest : List Stmt} {t u : TS}
theorem pas_of (h : PSs X rest t) : PAs X c rest t := ⟨fun pins s σ H D I q => wpAt_of_wpAny (h.run pins s σ H D I q)⟩
theorem pa1_of (h : PS X st t) : PA1 X c st t := ⟨fun pins s σ H D I q => wpAt_of_wpAny (h.run pins s σ H D I q)⟩
theorem pas_cons (h1 : PA1 X c st t) (h2 : PAs X c rest u) : PAs X c (st :: rest) (tSeq t u) := by
  refine ⟨fun pins s σ H D I q0 => ?_⟩
  refine ks_wpAt_execs_cons (ks_wpAt_mono (h1.run pins s σ H { D with nx := u D } I q0) (fun f s1 q => ?_) fun _ _ z => z)
  cases f with
  | next =>
    obtain ⟨σ', H', I', q⟩ := q
    exact h2.run pins _ σ' H' D I' q
  | ret v => exact q
  | brk => exact q
  | cont => exact q
theorem pas_one (h1 : PA1 X c st t) : PAs X c [st] t := by
  refine ⟨fun pins s σ H D I q0 => ?_⟩
  refine ks_wpAt_execs_cons (ks_wpAt_mono (h1.run pins s σ H D I q0) (fun f s1 q => ?_) fun _ _ z => z)
  cases f with
  | next => exact wpAt_of_wpAny (wpAny_execs_nil q)
  | ret v => exact q
  | brk => exact q
  | cont => exact q
end
/-- an expression of the body at hand -/
structure PX1 (X : Cx) (c : Code) (e : Expr) (t : TE) : Prop where
  run : ∀ (pins : List (Addr × Obj)) (s : Shared) (σ : L2.St) (H : Hp) (Q : VK), Inv X pins σ H s → t σ H Q → PySem.wpAt (model X.prog X.w) X.A c (eval e X.env) (EP X pins σ Q) X.xe s
section
variable {X : Cx} {c : Code} {e : Expr} {te : TE} {pos : Pos}
theorem pa1_expr (he : PX1 X c e te) (hs : swapsWith e none pos.line X.env = pure false := by rfl) : PA1 X c (.Expr e pos) (tDrop te) := by
  refine ⟨fun pins s σ H D I q0 => ?_⟩
  exact ks_wpAt_Expr_any (ks_wpAt_mono (he.run pins s σ H _ I q0) (fun v s1 ⟨x, H1, I1, r1, q1⟩ => ⟨σ, H1, I1, q1⟩) fun _ _ z => z) I.quiet hs
theorem pa1_ret (he : PX1 X c e te) : PA1 X c (.Return (some e) pos) (tRet te) := by
  refine ⟨fun pins s σ H D I q0 => ?_⟩
  exact ks_wpAt_Return_some (ks_wpAt_mono (he.run pins s σ H _ I q0) (fun v s1 ⟨x, H1, I1, r1, q1⟩ => ⟨x, σ, H1, I1, r1, q1⟩) fun _ _ z => z)
end
/-- super().m(..), self being the first parameter -/
def tSup (C : Addr) (sp : Sp) (dvs : List V) (E : XK) (t : TA) : TE := fun σ H Q => ∃ a dx fs, σ[0]? = some (some (.ref a)) ∧ H a = some (.ins C dx fs) ∧ t σ H fun vs H1 => sp (.ref a :: (vs ++ dvs)) H1 Q E
section
variable {CX0 CX : CXT} {P : Program} {w : World} {K : PySem.W.Frag} {mg : Str → Option Value} {base : Heap} {N ps : List Str} {x qual : Str} {params : Arguments} {body : List Stmt} {scope : Scope} {f D cda cc : Addr} {fd : FuncData} {dvs0 : List V} {file : Str} {A : Around} {outer : List Env} {s0 : Shared} {H0 : Hp} {E0 : XK}
/-- the text's facts of the def that runs -/
structure Here (K : PySem.W.Frag) (P : Program) (ps : List Str) (D f cda cc : Addr) : Prop where
  f : ∃ (oc : Value) (od : Option Addr) (fd : FuncData) (osl : Array (Option Value)) (ar : Arg), K.lookup f = some ⟨oc, od, .func fd, osl⟩ ∧ (fd.params.posonlyargs ++ fd.params.args).head? = some ar ∧ ps[0]? = some ar.arg
  cc : ∃ (cl : Value) (cld : Option Addr) (csl : Array (Option Value)), K.lookup cc = some ⟨cl, cld, .cell (some (.ref D)), csl⟩
  cd : ∃ (ccl : Value) (ccd : Option Addr) (ccs : Array (Option Value)) (vs : Array Value) (file : Str) (tf : Tok), K.lookup cda = some ⟨ccl, ccd, .fields vs, ccs⟩ ∧ vs[2]? = some (.str file tf) ∧ ((P.main.file : Str) == file) = true
  top : (P.main.scope.names.lookup ("super" : Str)).isSome = false
variable {c : Code} {st0 : List Stmt} {m : Str} {apos cpos p0 p1 : Pos} {es : List Expr} {C g : Addr} {k : Nat} {gd : FuncData} {gps : List Str} {sp : Sp} {dvs : List V} {ds : List Value} {E : XK} {t : TA} {pl : Sem Bool}
theorem px_sup (S : SScope N ps scope) (hh : Here K P ps D f cda cc) (sk : SupK K mg C D) (sm : SupM K C D m g)
    (F : FnOk P w K mg base CX k g gd gps sp) (hr : Room k (cxS CX0 P w K mg base N qual scope f cda cc A outer s0 H0 E0).A) (hb : Binds K gd gps ds) (hd : Vals dvs ds) (hx : Passes CX (cxS CX0 P w K mg base N qual scope f cda cc A outer s0 H0 E0) E)
    (ha : PA (cxS CX0 P w K mg base N qual scope f cda cc A outer s0 H0 E0) es t)
    (hcw : ∀ {u : Addr} {A' : Around} {E' : Value → Shared → Prop} {Q : Value → Shared → Prop} {s : Shared} {pins : List (Addr × Obj)} {σ : L2.St} {H : Hp} {a : Addr}, Inv (cxS CX0 P w K mg base N qual scope f cda cc A outer s0 H0 E0) ((u, PySem.W.methodObj (.ref g) (.ref a)) :: pins) σ H s → base.get? u = none →
      wpAny (model P w) A' (spliced (backTo cpos (starEach es (cxS CX0 P w K mg base N qual scope f cda cc A outer s0 H0 E0).env))) (fun vs s₁ => PySem.W.MethP K u g (.ref a) s₁.heap ∧ wpAny (model P w) A' (call (.ref u) vs) Q E' s₁) E' s →
      wpAny (model P w) A' (callWith cpos (.ref u) [] (backTo cpos (starEach es (cxS CX0 P w K mg base N qual scope f cda cc A outer s0 H0 E0).env)) []) Q E' s)
    (he : eval (.Call (.Attribute (.Call (.Name "super" p0) [] [] p1) m apos) es [] cpos) (cxS CX0 P w K mg base N qual scope f cda cc A outer s0 H0 E0).env = (do
      let ov ← attributeBase (.Call (.Name "super" p0) [] [] p1) m (cxS CX0 P w K mg base N qual scope f cda cc A outer s0 H0 E0).env (eval (.Call (.Name "super" p0) [] [] p1) (cxS CX0 P w K mg base N qual scope f cda cc A outer s0 H0 E0).env)
      standAt apos.atName
      let (fv, first) ← holding [ov] (getMethod ov m pl)
      callWith cpos fv first (backTo cpos (starEach es (cxS CX0 P w K mg base N qual scope f cda cc A outer s0 H0 E0).env)) []) := by rfl) :
    PX1 (cxS CX0 P w K mg base N qual scope f cda cc A outer s0 H0 E0) (.func st0 (sEnv qual scope s0.heap.objs.size f cda cc)) (.Call (.Attribute (.Call (.Name "super" p0) [] [] p1) m apos) es [] cpos) (tSup C sp dvs E t) := by
  refine ⟨fun pins s σ H Q I h => ?_⟩
  obtain ⟨a, dx, fs, hσ, hax, h⟩ := h
  obtain ⟨oc, od, fd, osl, ar, hf, hp, hps⟩ := hh.f
  obtain ⟨cl, cld, csl, hcc⟩ := hh.cc
  obtain ⟨ccl, ccd, ccs, vs2, file, tf, hcda, hvs, hfile⟩ := hh.cd
  have KX : K.In s.heap := I.kIn
  obtain ⟨mA, O, _⟩ := ins_get I.hok hax
  obtain ⟨odx, J, _⟩ := O.look
  obtain ⟨cdD, hD⟩ := sk.d
  obtain ⟨oD, hD1, hD2⟩ : ∃ oD, s.heap.get? D = some oD ∧ oD.data = .cls cdD := by
    unfold PySem.W.clsIn at hD
    split at hD
    · rename_i c d cd' sl ho
      cases hD
      exact ⟨_, KX _ _ ho, rfl⟩
    · cases hD
  have hN : (cxS CX0 P w K mg base N qual scope f cda cc A outer s0 H0 E0).N[0]? = some ar.arg := by
    show N[0]? = _
    rw [← S.pre] at hps
    rw [List.getElem?_take] at hps
    split at hps
    · exact hps
    · cases hps
  have hka : scope.names.lookup ar.arg = some .local := S.par _ (List.mem_of_getElem? hps)
  obtain ⟨mf, hns, hl⟩ := I.loc
  obtain ⟨u0, ru, lk⟩ := hl 0 ar.arg (.ref a) hN hσ (.inl hka)
  obtain rfl : u0 = Value.ref a := ru
  have hm : mf ar.arg = some (.ref a) := by
    rcases lk with ⟨_, z⟩ | ⟨z, _⟩
    · exact z
    · have z : scope.names.lookup ar.arg = some .cell ∨ scope.names.lookup ar.arg = some .free := z
      rw [hka] at z
      rcases z with z | z <;> cases z
  obtain ⟨mb, hb1, hb2⟩ := I.mod.blt
  refine ks_wpAt_MethodCall (pl := pl) ?_ he
  refine ks_wpAt_super_base (env := sEnv qual scope s0.heap.objs.size f cda cc) S.sup S.cls sm.nc rfl (KX _ _ hf) rfl hp rfl (KX _ _ hcda) rfl hvs hfile hh.top ?_
  refine PySem.W.ks_loadName_global S.kind S.sup (Calls.loadGlobal_builtin (env := sEnv qual scope s0.heap.objs.size f cda cc) (I.mod.glob.keeps I.bk) sk.free (hb1.keeps I.bk) ((hb2 _ (by decide)).trans (show bootBuiltins "super" = some (.type "super") by first | rfl | kernel_rfl)) ⟨rfl, ?_⟩)
  refine wpAny_loadName_free S.kind S.cls rfl ⟨_, KX _ _ hcc, rfl⟩ ?_
  refine wpAny_loadName_local S.kind hka hns hm ?_
  refine ks_wpAny_isType_cls hD1 hD2 (And.intro rfl ?_)
  refine ks_wpAny_call_super hD1 hD2 J.at_ J.cls (fun c e => ?_) (PySem.W.looks_mroIn KX sk.sub) (fun h' e k => ?_)
  · have := J.no
    unfold PySem.W.notCls at this
    rw [e] at this
    exact Bool.noConfusion this
  have I1 := ClX.pin_new (t' := s.toks) I k (Nat.le_refl _) e (fun v z => nomatch z)
  have X1 : K.In h' := KX.keeps k
  have J1 : PySem.W.InstAt h' a (PySem.W.instObj C dx) C (some odx) := ⟨k _ _ J.at_, J.cls, J.no, k _ _ J.dict⟩
  have hq := sm.at_
  unfold PySem.W.ks_superIn at hq
  cases hc : PySem.W.clsIn K C with
  | none =>
    rw [hc] at hq
    cases hq
  | some cd =>
    rw [hc] at hq
    obtain ⟨og, hog, hogc⟩ : ∃ og, h'.get? g = some og ∧ og.cls = .type "function" := by
      have ht' : (K.lookup g).map (·.cls) = some (.type "function") := sm.ty
      cases z : K.lookup g with
      | none =>
        rw [z] at ht'
        cases ht'
      | some og =>
        rw [z] at ht'
        exact ⟨og, X1 _ _ z, Option.some.inj ht'⟩
    refine ks_wpAny_getMethod_super e (PySem.W.looks_opaque X1 sk.st) (l₀ := cd.mro) (fun A Q E s k q => wpAny_bind ((PySem.W.looks_clsIn X1 hc) A _ E s k (wpAny_pure q))) rfl X1 hq hog hogc (PySem.W.ks_ne X1 J1 hc) sm.nc ?_
    have I2 := ClX.pin_new (o := PySem.W.methodObj (.ref g) (.ref a)) (t' := s.toks + 1) I1 (fun b o z => Heap.get?_push_of_some _ z) (Nat.le_refl _) (Heap.get?_push_size h' rfl) (fun v z => nomatch z)
    refine hcw I2 (ClX.base_none I1 (Nat.le_refl _)) (thn (ha.run cpos _ _ σ H _ I2 h) fun us s3 ⟨vs, H2, I3, rv, q2⟩ => ⟨⟨ClX.pin_at I3, I3.kIn⟩, ?_⟩)
    have r2 : Vals (.ref a :: (vs ++ dvs)) (.ref a :: (us ++ ds)) := .cons rfl (rv.append hd)
    have hlen : (.ref a :: us ++ ds).length = gps.length := by
      have := F.len _ _ _ _ q2
      rw [← this, r2.length]
      rfl
    refine wpAny_call (PySem.W.method_call (ClX.pin_at I3) (codeAny_mono (F.run _ _ s3 H2 ⟨.ref a :: us, []⟩ (.ref a :: (us ++ ds)) (.ref a :: (vs ++ dvs)) Q E hr I3.env0 (hb s3 (.ref a :: us) I3.kIn hlen) r2 q2) fun r s' hq => ?_))
    cases r with
    | error e => exact hx _ σ H2 s3 e s' I3 hq
    | ok fl =>
      cases fl with
      | ret u => exact ClX.unpinE (ClX.unpinE (I3.after hq))
      | next => exact False.elim hq
      | brk => exact False.elim hq
      | cont => exact False.elim hq
theorem cw_args {X : Cx} {e : Expr} {es : List Expr} {cpos : Pos} {g : Addr} (hf : PySem.W.fnIn X.K g = true) (hst : starEach (e :: es) X.env = (false, eval e X.env) :: starEach es X.env) (hpl : (backTo cpos (starEach es X.env)).any (·.1) = false)
    {u : Addr} {A' : Around} {E' : Value → Shared → Prop} {Q : Value → Shared → Prop} {s : Shared} {pins : List (Addr × Obj)} {σ : L2.St} {H : Hp} {a : Addr} (I : Inv X ((u, PySem.W.methodObj (.ref g) (.ref a)) :: pins) σ H s) (hb : X.base.get? u = none)
    (h : wpAny (model X.prog X.w) A' (spliced (backTo cpos (starEach (e :: es) X.env))) (fun vs s₁ => PySem.W.MethP X.K u g (.ref a) s₁.heap ∧ wpAny (model X.prog X.w) A' (call (.ref u) vs) Q E' s₁) E' s) :
    wpAny (model X.prog X.w) A' (callWith cpos (.ref u) [] (backTo cpos (starEach (e :: es) X.env)) []) Q E' s := ClX.callwith_cm I hb hf h hst hpl
theorem cw_none {X : Cx} {cpos : Pos} {g : Addr} (hf : PySem.W.fnIn X.K g = true)
    {u : Addr} {A' : Around} {E' : Value → Shared → Prop} {Q : Value → Shared → Prop} {s : Shared} {pins : List (Addr × Obj)} {σ : L2.St} {H : Hp} {a : Addr} (I : Inv X ((u, PySem.W.methodObj (.ref g) (.ref a)) :: pins) σ H s) (hb : X.base.get? u = none)
    (h : wpAny (model X.prog X.w) A' (spliced (backTo cpos (starEach [] X.env))) (fun vs s₁ => PySem.W.MethP X.K u g (.ref a) s₁.heap ∧ wpAny (model X.prog X.w) A' (call (.ref u) vs) Q E' s₁) E' s) :
    wpAny (model X.prog X.w) A' (callWith cpos (.ref u) [] (backTo cpos (starEach [] X.env)) []) Q E' s := by
  refine PySem.W.callWith_M0 ⟨ClX.pin_at I, I.kIn⟩ hf ?_
  intro Γ p hΓ
  have z := h Γ p hΓ
  rw [show spliced (backTo cpos (starEach [] X.env)) = pure [] from rfl, Sem.wp_pure'] at z
  exact z.2 Γ p hΓ
/-- THE RULE for such a method -/
theorem fnS_of (lk : FunS K x qual params body scope dvs0 file D f fd) (pf : PFile P file) (S : SScope N ps scope) (hp0 : ∃ ar, (params.posonlyargs ++ params.args).head? = some ar ∧ ps[0]? = some ar.arg)
    (len : ∀ us H Q E, sp us H Q E → us.length = ps.length)
    (hbody : ∀ (cda cc : Addr) (A : Around) (outer : List Env) (s : Shared) (H : Hp) (vs : List V) (Q : VK) (E : XK), Here K P ps D f cda cc → Room k (A.deeper (sEnv qual scope s.heap.objs.size f cda cc)) → sp vs H Q E →
      ∃ t, PAs (cxS CX P w K mg base N qual scope f cda cc A outer s H E) (.func body (sEnv qual scope s.heap.objs.size f cda cc)) body t ∧ t { nx := fun _ H' => Q .non H', rt := Q } (L2.start N vs) H) :
    FnOk P w K mg base CX (k + 1) f fd ps sp := by
  obtain ⟨oc, od, dV, kV, doc, pm, an, cda, ct, osl, cc, cl, cld, csl, ccl, ccd, ccs, vs2, tf, rfl, hk, hcd, hdf, hcc, hcda, hvs⟩ := lk.ex
  obtain ⟨ar, ha1, ha2⟩ := hp0
  have here : Here K P ps D f cda cc := ⟨⟨_, _, _, _, ar, hk, ha1, ha2⟩, ⟨_, _, _, hcc⟩, ⟨_, _, _, _, _, _, hcda, hvs, pf.same⟩, pf.top⟩
  refine ⟨len, fun A outer s H args us vs Q E hr e0 hb r q0 => ?_⟩
  have hsp := q0
  have hl := len _ _ _ _ hsp
  have KX : K.In s.heap := e0.mod.kin.keeps fun b o q => (e0.bs b o q).1
  have lim : s.heap.NoLimit := e0.mod.nolimit.keeps fun b o q => (e0.bs b o q).1
  refine ks_codeAny_call_defAt (fd := PySem.W.ksFn x qual params body scope dV kV doc pm an (.ref cda) ct cc) (body := body) (binds := ps.zip us) hr.depth (KX _ _ hk) rfl lim (PySem.W.codeRec_of KX hcd) rfl hb S.nocell (fun y hy => S.par _ (List.of_mem_zip (a := y.1) (b := y.2) hy).1) (fun h₁ hns hk₁ => ?_) S.co S.gen S.kind
  obtain ⟨t, ht, hq⟩ := hbody cda cc A outer s H vs Q E here (hr.deeper _) hsp
  have I : Inv (cxS CX P w K mg base N qual scope f cda cc A outer s H E) [] (L2.start N vs) H { s with heap := h₁, toks := s.toks + (ps.zip us).length } := startS S hr.hd e0 hl r (e0.mod.kin _ _ hcc) rfl hns hk₁
  refine ks_wpAt_mono (ht.run [] _ (L2.start N vs) H _ I hq) (fun fl s' hs => ?_) fun e s' hs => hs
  have fin : ∀ {σ' : L2.St} {H' : Hp} {v : V} {u : Value}, Inv (cxS CX P w K mg base N qual scope f cda cc A outer s H E) [] σ' H' s' → RelV v u → Q v H' → CE outer P w H s Q u s' :=
    fun {σ' H' v u} J r q => ⟨v, H', J.os, J.bare, J.base, J.hok, r, q⟩
  cases fl with
  | ret u =>
    obtain ⟨v, σ', H', J, r, q⟩ := hs
    exact fin J r q
  | next =>
    obtain ⟨σ', H', J, q⟩ := hs
    exact fin (u := Value.none) (v := V.non) J rfl q
  | brk =>
    obtain ⟨_, _, _, q⟩ := hs
    exact False.elim q
  | cont =>
    obtain ⟨_, _, _, q⟩ := hs
    exact False.elim q
end
end SuX

set_option maxHeartbeats 1000000
namespace Ca
open PySem PySem.Spec PyProof.Rows L2 LamX He
/-! ### methods that say super(), read off the top -/
structure SfX where
  at_ : PySem.W.Frag → Addr
  name : PySem.Str
  qual : PySem.Str
  st : Stmt
  own : PySem.W.Frag → Addr
  dvs : List V
abbrev SfX.see (d : SfX) (K : PySem.W.Frag) : FnW := match K.lookup (d.at_ K) with
  | some ⟨_, _, .func g, _⟩ => some (g.name, g.qualname, g.params, g.body, g.scope, g.globals, g.closure.map (fun q => (q.1, 0)), g.builtins)
  | _ => none
def SfX.due (d : SfX) : FnW := some (d.name, d.qual, defArgs d.st, .stmts (defBody d.st), defScope d.st, mainGlobals, [("__class__", 0)], builtinsNs)
def cellB (K : PySem.W.Frag) (cl : List (PySem.Str × Addr)) (D : Addr) : Bool := match cl with
  | [(_, cc)] => (match K.lookup cc with
    | some ⟨_, _, .cell (some (.ref D')), _⟩ => decide (D' = D)
    | _ => false)
  | _ => false
def fileB (K : PySem.W.Frag) (cdv : Value) (file : PySem.Str) : Bool := match cdv with
  | .ref cda => (match K.lookup cda with
    | some ⟨_, _, .fields vs, _⟩ => (match (vs[2]? : Option Value) with
      | some (.str x _) => decide (x = file)
      | _ => false)
    | _ => false)
  | _ => false
def SfX.ok (file : PySem.Str) (d : SfX) (K : PySem.W.Frag) : Bool := PySem.W.keepIn K (.ref (d.at_ K)) && (match K.lookup (d.at_ K) with
  | some ⟨_, _, .func g, _⟩ => (PySem.W.codeIn K g.code d.qual && dflB K g.defaults d.dvs) && (cellB K g.closure (d.own K) && fileB K g.code file)
  | _ => false)
theorem cellB_ok {K : PySem.W.Frag} {cl : List (PySem.Str × Addr)} {D : Addr} (h : cellB K cl D = true) : ∃ x cc, cl = [(x, cc)] ∧ ∃ a b c, K.lookup cc = some ⟨a, b, .cell (some (.ref D)), c⟩ := by
  unfold cellB at h
  match cl, h with
  | [(x, cc)], h =>
    simp only at h
    cases q : K.lookup cc with
    | none =>
      rw [q] at h
      cases h
    | some o =>
      obtain ⟨a, b, dt, c⟩ := o
      rw [q] at h
      cases dt with
      | cell v =>
        cases v with
        | none => cases h
        | some v =>
          cases v with
          | ref D' =>
            obtain rfl := of_decide_eq_true h
            exact ⟨x, cc, rfl, a, b, c, q⟩
          | _ => cases h
      | _ => cases h
theorem fileB_ok {K : PySem.W.Frag} {cdv : Value} {file : PySem.Str} (h : fileB K cdv file = true) : ∃ cda a b c vs t, cdv = .ref cda ∧ K.lookup cda = some ⟨a, b, .fields vs, c⟩ ∧ vs[2]? = some (.str file t) := by
  unfold fileB at h
  cases cdv with
  | ref cda =>
    simp only at h
    cases q : K.lookup cda with
    | none =>
      rw [q] at h
      cases h
    | some o =>
      obtain ⟨a, b, dt, c⟩ := o
      rw [q] at h
      cases dt with
      | fields vs =>
        simp only at h
        cases z : (vs[2]? : Option Value) with
        | none =>
          rw [z] at h
          cases h
        | some v =>
          rw [z] at h
          cases v with
          | str x t =>
            obtain rfl := of_decide_eq_true h
            exact ⟨cda, a, b, c, vs, t, rfl, q, z⟩
          | _ => cases h
      | _ => cases h
  | _ => cases h
theorem SfX.fun_ {d : SfX} {file : PySem.Str} {K : PySem.W.Frag} (e : d.see K = d.due) (c : d.ok file K = true) : ∃ fd, SuX.FunS K d.name d.qual (defArgs d.st) (defBody d.st) (defScope d.st) d.dvs file (d.own K) (d.at_ K) fd := by
  unfold SfX.ok at c
  obtain ⟨kp, c⟩ := ba c
  unfold SfX.see at e
  cases q : K.lookup (d.at_ K) with
  | none =>
    rw [q] at c
    cases c
  | some o =>
    obtain ⟨oc, od, dt, sl⟩ := o
    rw [q] at c e
    cases dt with
    | func g =>
      obtain ⟨y1, y2, y3, y4, y5, y6, y7, y8, y9, y10, y11, y12, y13, y14, y15⟩ := g
      unfold SfX.due at e
      have e1 := Option.some.inj e
      simp only [Prod.mk.injEq] at e1
      obtain ⟨z1, z2, z3, z4, z5, z6, z7, z8⟩ := e1
      obtain ⟨ca, cb⟩ := ba c
      obtain ⟨c1, c2⟩ := ba ca
      obtain ⟨c3, c4⟩ := ba cb
      obtain ⟨x, cc, ecl, a1, a2, a3, hcc⟩ := cellB_ok c3
      obtain ⟨cda, b1, b2, b3, vs, t, ecd, hcd, hvs⟩ := fileB_ok c4
      simp only at ecl ecd
      subst ecl ecd z1 z2 z3 z4 z5 z6 z8
      have zx : x = ("__class__" : PySem.Str) := by
        simp only [List.map_cons, List.map_nil, List.cons.injEq, Prod.mk.injEq, and_true] at z7
        exact z7
      subst zx
      exact ⟨_, ⟨oc, od, _, _, _, _, _, cda, _, sl, cc, a1, a2, a3, b1, b2, b3, vs, t, rfl, q, c1, dflB_ok c2, hcc, hcd, hvs⟩, kp.symm⟩
    | _ => cases c
structure SaysS (file : PySem.Str) (sn : List SfX) (K : PySem.W.Frag) : Prop where
  ok : sn.all (fun d => d.ok file K) = true
  see : sn.map (fun d => d.see K) = sn.map SfX.due
theorem SaysS.def_ {file : PySem.Str} {sn : List SfX} {K : PySem.W.Frag} (c : SaysS file sn K) (i : Nat) {d : SfX} (h : sn[i]? = some d := by rfl) : ∃ fd, SuX.FunS K d.name d.qual (defArgs d.st) (defBody d.st) (defScope d.st) d.dvs file (d.own K) (d.at_ K) fd := by
  have z3 : (sn.map fun d => d.see K)[i]? = (sn.map SfX.due)[i]? := by rw [c.see]
  rw [List.getElem?_map, List.getElem?_map, h] at z3
  exact SfX.fun_ (Option.some.inj z3) (List.all_eq_true.mp c.ok d (List.mem_of_getElem? h))
abbrev AlS : Type := AlZ × (Bool × List FnW)
def supsIn (file : PySem.Str) (sn : List SfX) (K : PySem.W.Frag) : Bool × List FnW := (sn.all (fun d => d.ok file K), sn.map fun d => d.see K)
def seeS (n : Nat) (fs : List (PySem.W.Frag → Bool)) (fn tf : List DfX) (file : PySem.Str) (sn : List SfX) (g : Addr → Option Obj) : AlS := (seeZ n fs fn tf g, supsIn file sn (frT g (cStatics :: sysModules :: asD g n)))
def hookS (n : Nat) (fs : List (PySem.W.Frag → Bool)) (fn tf : List DfX) (file : PySem.Str) (sn : List SfX) : PySem.W.Hook where
  α := AlS
  obs := fun s => seeS n fs fn tf file sn s.heap.get?
  val := fun _ => ((dueX fn, true), (true, sn.map SfX.due))
  says := fun _ h => ∃ K : PySem.W.Frag, K.In h ∧ SaysZ fs fn tf h K ∧ SaysS file sn K
  of := fun _ _ e => ⟨_, frT_in, saysZ_of (congrArg Prod.fst e), ⟨congrArg (fun z : AlS => z.2.1) e, congrArg (fun z : AlS => z.2.2) e⟩⟩
  keeps := fun _ _ _ ⟨K, hK, c, c2⟩ k => ⟨K, PySem.W.Frag.In.keeps hK k, ⟨c.c, c.code, c.hd, c.out, fun d hd => k _ _ (c.empty d hd)⟩, c2⟩
theorem seeS_eq {n : Nat} {fs : List (PySem.W.Frag → Bool)} {fn tf : List DfX} {file : PySem.Str} {sn : List SfX} {g : Addr → Option Obj} {s : Shared} (h : ∀ a, g a = s.heap.get? a) : seeS n fs fn tf file sn g = (hookS n fs fn tf file sn).obs s := by
  obtain rfl : g = s.heap.get? := funext h
  rfl
end Ca
namespace SuX
open PySem PySem.Spec PyProof.Rows L2
section
variable {K : PySem.W.Frag} {x qual : Str} {params : Arguments} {body : List Stmt} {scope : Scope} {file : Str} {D f : Addr} {fd : FuncData} {ps : List Str}
theorem FunS.bindsN (F : FunS K x qual params body scope [] file D f fd)
    (h : ∀ (kV doc pm : Value) (an : Option Addr) (cda : Addr) (ct : Value) (cc : Addr) (us : List Value), us.length = ps.length → bindArgs (PySem.W.ksFn x qual params body scope .none kV doc pm an (.ref cda) ct cc) ⟨us, []⟩ = pure (ps.zip us)) : Binds K fd ps [] := by
  obtain ⟨oc, od, dV, kV, doc, pm, an, cda, ct, osl, cc, cl, cld, csl, ccl, ccd, ccs, vs, tf, rfl, hk, hcd, hdf, _⟩ := F.ex
  rcases hdf with ⟨_, rfl⟩ | ⟨z, _⟩
  · exact .all (h kV doc pm an cda ct cc)
  · exact absurd rfl z
theorem FunS.binds1 {dvs : List V} (F : FunS K x qual params body scope dvs file D f fd) (n j : Nat) (hd : dvs ≠ []) (hn : n + (dvs.length - j) = ps.length)
    (h : ∀ (T : Addr) (kV doc pm : Value) (an : Option Addr) (cda : Addr) (ct : Value) (cc : Addr) (us its : List Value), us.length = n → its.length = dvs.length →
      ∃ k, bindArgs (PySem.W.ksFn x qual params body scope (.ref T) kV doc pm an (.ref cda) ct cc) ⟨us, []⟩ = seqItems? (.ref T) >>= k ∧ k (some its.toArray) = pure (ps.zip (us ++ its.drop j))) : ∃ ds, Vals (dvs.drop j) ds ∧ Binds K fd ps ds := by
  obtain ⟨oc, od, dV, kV, doc, pm, an, cda, ct, osl, cc, cl, cld, csl, ccl, ccd, ccs, vs, tf, rfl, hk, hcd, hdf, _⟩ := F.ex
  rcases hdf with ⟨z, _⟩ | ⟨_, T, o, its, m, rfl, lT, oT, rT⟩
  · exact absurd z hd
  · refine ⟨its.drop j, rT.drop j, fun s us X hu => ?_⟩
    have l1 : its.length = dvs.length := (rT.length).symm
    have l2 : us.length = n := by
      have e : (us ++ its.drop j).length = us.length + (its.length - j) := by rw [List.length_append, List.length_drop]
      omega
    obtain ⟨k, e1, e2⟩ := h T kV doc pm an cda ct cc us its l2 l1
    exact BindsTo.of_looks fun M => by
      rw [e1]
      exact looks_items (K := K) X lT oT (.of_pure e2)
/-- the values of the first n parameters, and keywords for all that follow -/
theorem FunS.kwAll {dvs : List V} (F : FunS K x qual params body scope dvs file D f fd) (n : Nat) (ks : List Str) (hd : dvs ≠ [])
    (h : ∀ (T : Addr) (kV doc pm : Value) (an : Option Addr) (cda : Addr) (ct : Value) (cc : Addr) (us its ws : List Value), us.length = n → its.length = dvs.length → ws.length = ks.length →
      ∃ k, bindArgs (PySem.W.ksFn x qual params body scope (.ref T) kV doc pm an (.ref cda) ct cc) ⟨us, ks.zip ws⟩ = seqItems? (.ref T) >>= k ∧ k (some its.toArray) = pure (ps.zip (us ++ ws))) : KBn K fd ps n ks (fun us ws => us ++ ws) (fun vs zs => vs ++ zs) := by
  obtain ⟨oc, od, dV, kV, doc, pm, an, cda, ct, osl, cc, cl, cld, csl, ccl, ccd, ccs, vs, tf, rfl, hk, hcd, hdf, _⟩ := F.ex
  rcases hdf with ⟨z, _⟩ | ⟨_, T, o, its, m, rfl, lT, oT, rT⟩
  · exact absurd z hd
  · exact ⟨fun s us ws X l1 l2 => by
      obtain ⟨k, e1, e2⟩ := h T kV doc pm an cda ct cc us its ws l1 (rT.length).symm l2
      exact BindsTo.of_looks fun M => by
        rw [e1]
        exact looks_items (K := K) X lT oT (.of_pure e2), fun r1 r2 => Vals.append r1 r2⟩
end
end SuX
namespace Q
open PySem PySem.Spec PyProof.Rows L2 He Ca
def oneB (v : Option Value) (t : String) : Bool := match v with
  | some (.type x) => decide (x = t)
  | _ => false
theorem oneB_ok {v : Option Value} {t : String} (h : oneB v t = true) : v = some (.type t) := by
  unfold oneB at h
  split at h
  · rw [of_decide_eq_true h]
  · cases h
def supKB (C D : PySem.Str) (K : PySem.W.Frag) : Bool := (PySem.W.clsIn K (ga K D)).isSome && (decide (PySem.W.mroIn K (ga K C) (.ref (ga K D)) = some true) && eqO (PySem.W.nsIn K PySem.cStatics "thirdparty.any") (some none))
theorem supK_ok {C D : PySem.Str} {K : PySem.W.Frag} {mg : PySem.Str → Option Value} (f : mg "super" = none) (h : supKB C D K = true) : SuX.SupK K mg (ga K C) (ga K D) := by
  obtain ⟨h1, h⟩ := ba h
  obtain ⟨h2, h3⟩ := ba h
  exact ⟨Option.isSome_iff_exists.mp h1, of_decide_eq_true h2, f, eqO_ok h3⟩
def supMB (C D B m : PySem.Str) (K : PySem.W.Frag) : Bool := eqO (PySem.W.ks_superIn K (ga K C) (ga K D) m) (some (some (.ref (ma K (ga K B) m)))) && (oneB (PySem.W.typeIn K (.ref (ma K (ga K B) m))) "function" && (PySem.W.fnIn K (ma K (ga K B) m) && !(m == ("__class__" : PySem.Str))))
theorem supM_ok {C D B m : PySem.Str} {K : PySem.W.Frag} (h : supMB C D B m K = true) : SuX.SupM K (ga K C) (ga K D) m (ma K (ga K B) m) := by
  obtain ⟨h1, h⟩ := ba h
  obtain ⟨h2, h⟩ := ba h
  obtain ⟨h3, h4⟩ := ba h
  exact ⟨eqO_ok h1, oneB_ok h2, h3, by simpa using h4⟩
def methEB (C B m : PySem.Str) (K : PySem.W.Frag) : Bool := decide (ma K (ga K C) m = ma K (ga K B) m)
theorem methE_ok {C B m : PySem.Str} {K : PySem.W.Frag} (h : methEB C B m K = true) : ma K (ga K C) m = ma K (ga K B) m := of_decide_eq_true h
def tabNB (x y : PySem.Str) (K : PySem.W.Frag) : Bool := !decide (tabAt K (codeAt K (ga K x)) = tabAt K (codeAt K (ga K y)))
theorem tabN_ok {x y : PySem.Str} {K : PySem.W.Frag} (h : tabNB x y K = true) : ¬ tb0 K (ga K x) = tb0 K (ga K y) := fun e => by
  unfold tabNB at h
  rw [decide_eq_true (show tabAt K (codeAt K (ga K x)) = tabAt K (codeAt K (ga K y)) from e)] at h
  cases h
end Q

set_option maxHeartbeats 1000000
noncomputable section
namespace Ca
open PySem PySem.Spec PyProof.Rows L2 LamX He
/-! ### a fragment, its addresses made numbers once -/
def frK {α : Type} (K : PySem.W.Frag) : (PySem.W.Frag → α) → α :=
  List.rec (motive := fun _ => (PySem.W.Frag → α) → α) (fun k => k []) (fun q _ ih k => match q with
    | (a, o) => HandSHeadRun.frNat a fun a => ih fun r => match o with
      | ⟨oc, od, dt, sl⟩ => k ((a, ⟨oc, od, dt, sl⟩) :: r)) K
theorem frK_eq {α : Type} (K : PySem.W.Frag) (k : PySem.W.Frag → α) : frK K k = k K := by
  induction K generalizing k with
  | nil => rfl
  | cons q K ih =>
    obtain ⟨a, oc, od, dt, sl⟩ := q
    show HandSHeadRun.frNat a (fun a => frK K fun r => k ((a, ⟨oc, od, dt, sl⟩) :: r)) = _
    rw [HandSHeadRun.frNat_eq, ih]
/-- what the top leaves, read over a list of addresses -/
def seeA (as : List Addr) (fs : List (PySem.W.Frag → Bool)) (fn tf : List DfX) (file : PySem.Str) (sn : List SfX) (g : Addr → Option Obj) : AlS :=
  frK (frT g as) fun K => ((seeX fs fn K, tabsZ g tf K), supsIn file sn K)
theorem saysA_of {as : List Addr} {fs : List (PySem.W.Frag → Bool)} {fn tf : List DfX} {file : PySem.Str} {sn : List SfX} {h : Heap} (e : seeA as fs fn tf file sn h.get? = ((dueX fn, true), (true, sn.map SfX.due))) : SaysZ fs fn tf h (frT h.get? as) ∧ SaysS file sn (frT h.get? as) := by
  unfold seeA at e
  rw [frK_eq] at e
  have e1 : SaysX fs fn (frT h.get? as) := congrArg (fun z : AlS => z.1.1) e
  have e2 : tabsZ h.get? tf (frT h.get? as) = true := congrArg (fun z : AlS => z.1.2) e
  have e3 : supsIn file sn (frT h.get? as) = (true, sn.map SfX.due) := congrArg (fun z : AlS => z.2) e
  generalize hK : frT h.get? as = K at e1 e2 e3
  have each : ∀ d ∈ tf, isRefC K (d.at_ K) = true ∧ PySem.W.codeHdIn K (ctD K d).1 (ctD K d).2 = true ∧ ∃ o, h.get? (ctD K d).2 = some o ∧ emptyTab o = true := fun d hd => by
    obtain ⟨z1, z⟩ := ba (List.all_eq_true.mp e2 d hd)
    obtain ⟨z2, z3⟩ := ba z
    refine ⟨z1, z2, ?_⟩
    cases q : h.get? (ctD K d).2 with
    | none =>
      rw [q] at z3
      cases z3
    | some o =>
      rw [q] at z3
      exact ⟨o, rfl, z3⟩
  refine ⟨⟨e1, fun d hd => (each d hd).1, fun d hd => (each d hd).2.1, fun d hd => ?_, fun d hd => ?_⟩, congrArg Prod.fst e3, congrArg Prod.snd e3⟩
  · obtain ⟨_, _, o, q, z⟩ := each d hd
    rw [← hK] at q ⊢
    exact frT_none q z
  · obtain ⟨_, _, o, q, z⟩ := each d hd
    rw [q, emptyTab_eq z]
def hookA (as : List Addr) (fs : List (PySem.W.Frag → Bool)) (fn tf : List DfX) (file : PySem.Str) (sn : List SfX) : PySem.W.Hook where
  α := AlS
  obs := fun s => seeA as fs fn tf file sn s.heap.get?
  val := fun _ => ((dueX fn, true), (true, sn.map SfX.due))
  says := fun _ h => ∃ K : PySem.W.Frag, K.In h ∧ SaysZ fs fn tf h K ∧ SaysS file sn K
  of := fun _ _ e => ⟨_, frT_in, saysA_of e⟩
  keeps := fun _ _ _ ⟨K, hK, c, c2⟩ k => ⟨K, PySem.W.Frag.In.keeps hK k, ⟨c.c, c.code, c.hd, c.out, fun d hd => k _ _ (c.empty d hd)⟩, c2⟩
theorem seeA_eq {as : List Addr} {fs : List (PySem.W.Frag → Bool)} {fn tf : List DfX} {file : PySem.Str} {sn : List SfX} {g : Addr → Option Obj} {s : Shared} (h : ∀ a, g a = s.heap.get? a) : seeA as fs fn tf file sn g = (hookA as fs fn tf file sn).obs s := by
  obtain rfl : g = s.heap.get? := funext h
  rfl
end Ca

set_option maxHeartbeats 1000000
namespace Q
open PySem PySem.Spec PyProof.Rows L2 Ca
/-! ### books: what is common to the kinds -/
abbrev s_basg : Stmt := inClass cB 4
abbrev n_basg : List PySem.Str := ["self", "table"]
theorem sc_basg : FnScope n_basg ["self", "table"] (defScope s_basg) := ⟨rfl, rfl, rfl, by decide +kernel, rfl, by decide +kernel, by decide +kernel⟩
theorem hp0_of {ps : List PySem.Str} {st : Stmt} (h : ((defArgs st).posonlyargs ++ (defArgs st).args).head?.map (·.arg) = ps[0]?) (hn : ps[0]?.isSome = true) : ∃ ar, ((defArgs st).posonlyargs ++ (defArgs st).args).head? = some ar ∧ ps[0]? = some ar.arg := by
  cases e : ((defArgs st).posonlyargs ++ (defArgs st).args).head? with
  | none =>
    rw [e] at h
    rw [← h] at hn
    cases hn
  | some ar =>
    rw [e] at h
    exact ⟨ar, rfl, h.symm⟩
/-- tables assigned: chk tells what is refused -/
def spAsg {α : Type} (CT CB : Addr) (QP : α → Hp → V → Prop) (NT : Addr) (cs : Option Int → Prop) (chk : Option Int → List Ro → Option Addr) : Sp := fun vs H Q E => ∃ (S : Addr → Bool) (b p : Addr) (cap : Option Int) (st : BSt α) (past : List (BSt α)) (v : V) (ks : List Ro) (is : Bool), vs = [.ref b, v] ∧ Fr S H ∧ BD CT CB QP S b p cap st past H ∧ past.length ≤ 900 ∧ cs cap ∧
  ((is = true ∧ TV CT ks (offS S H) v ∧ GoodT ks) ∨ (is = false ∧ OddV (offS S H) v)) ∧ (is = false → ∀ H', Same H H' → E (.ref NT) none H') ∧ (is = true → ∀ N, chk cap ks = some N → ∀ H', Same H H' → E (.ref N) none H') ∧
  (is = true → chk cap ks = none → ∀ H', Kb b p H H' → BD CT CB QP S b p cap ⟨ks, st.qs⟩ (past ++ [st]) H' → Q .non H')
def AnyCap : Option Int → Prop := fun _ => True
def IsCap : Option Int → Prop := fun c => ∃ i, c = some i ∧ 0 ≤ i ∧ i ≤ 10000
/-- a put into a capped book -/
def spPutC {α : Type} (CT CB : Addr) (QP : α → Hp → V → Prop) (kf : Ky → List Ky) (NK NN NX NO : Addr) : Sp := fun vs H Q E => ∃ (S : Addr → Bool) (b p : Addr) (c : Int) (st : BSt α) (past : List (BSt α)) (v1 v2 v3 v4 : V) (d1 d2 d3 d4 : PyData), vs = [.ref b, v1, v2, v3, v4] ∧ Fr S H ∧ BD CT CB QP S b p (some c) st past H ∧ past.length ≤ 900 ∧ (0 ≤ c ∧ c ≤ 10000) ∧ RpA (offS S H) [v1, v2, v3, v4] [d1, d2, d3, d4] ∧
  (isTri (.tuple [d1, d2, d3]) 99 = false → ∀ H', Same H H' → E (.ref NK) none H') ∧ (isTri (.tuple [d1, d2, d3]) 99 = true → isNum d4 0 10000 = false → ∀ H', Same H H' → E (.ref NN) none H') ∧
  (∀ (q : Ky) (n : Int), d1 = .str q.k → d2 = .int q.l → d3 = .int q.r → d4 = .int n → GoodK q → 0 ≤ n → n ≤ 10000 → (c < n → ∀ H', Same H H' → E (.ref NO) none H') ∧ (n ≤ c →
    (12 < (twR st.ks (kf q) n).length → ∀ H', Same H H' → E (.ref NX) none H') ∧
    ((twR st.ks (kf q) n).length ≤ 12 → ∀ ms, srtD ((twR st.ks (kf q) n).map roD) = ms.map roD → ms.Perm (twR st.ks (kf q) n) → GoodT ms → ∀ H', Kb b p H H' → BD CT CB QP S b p (some c) ⟨ms, st.qs⟩ (past ++ [st]) H' → Q .non H')))
def often? (c : Option Int) (ks : List Ro) : Bool := match c with
  | none => false
  | some c => ks.any fun a => decide (c < a.n)
def ofChk (NO : Addr) (chk : Option Int → List Ro → Option Addr) : Option Int → List Ro → Option Addr := fun cap ks => if often? cap ks = true then some NO else chk cap ks
theorem of_yes {NO : Addr} {chk : Option Int → List Ro → Option Addr} {cap : Option Int} {ks : List Ro} (h : often? cap ks = true) : ofChk NO chk cap ks = some NO := if_pos h
theorem of_no {NO : Addr} {chk : Option Int → List Ro → Option Addr} {cap : Option Int} {ks : List Ro} (h : ¬ often? cap ks = true) : ofChk NO chk cap ks = chk cap ks := if_neg h
theorem often_no {c : Int} {ks : List Ro} (h : often? (some c) ks = false) : ∀ a ∈ ks, a.n ≤ c := fun a ha => by
  have := List.any_eq_false.mp h a ha
  simpa using this
theorem often_yes {c : Int} {ks : List Ro} (h : often? (some c) ks = true) : ∃ a ∈ ks, c < a.n := by
  obtain ⟨a, ha, z⟩ := List.any_eq_true.mp h
  exact ⟨a, ha, of_decide_eq_true z⟩
section
variable {P : Program} {w : World} {K : PySem.W.Frag} {mg : PySem.Str → Option Value} {base : Heap} {α : Type} {QP : α → Hp → V → Prop}
theorem ok_basg {f fC fG CT CB NT : Addr} {fd fdC fdG : FuncData} (F : FnM K "assign_table" "Book.assign_table" s_basg f fd) (c : BCl K CB) (m : QMon QP) (GC : FnOk P w K mg base (L2.CX P w) 1 fC fdC ["thing"] (spCk CT NT)) (bC : Binds K fdC ["thing"] []) (kC : PySem.W.keepIn K (.ref fC) = true) (gC : mg "check_table" = some (.ref fC))
    (MG : Meth K CB "change" fG) (GG : FnOk P w K mg base CX0 1 fG fdG ["self", "table", "questions"] (spChange CT CB QP)) (bG : Binds K fdG ["self", "table", "questions"] []) :
    FnOk P w K mg base (L2.CX P w) 3 f fd ["self", "table"] (spAsg CT CB QP NT AnyCap fun _ _ => none) := by
  refine F.ok sc_basg (fun vs H Q E h => ?_) (fun cdv A outer s H vs Q E hr h => ?_)
  · obtain ⟨S, b, p, cap, st, past, v, ks, is, rfl, _⟩ := h
    rfl
  obtain ⟨S, b, p, cap, st, past, v, ks, is, rfl, fr, bd, l9, _, hv, kE, _, kQ⟩ := h
  have pL := passes_call (X := cxOf (L2.CX P w) P w K mg base n_basg "Book.assign_table" (defScope s_basg) f cdv A outer s H E) (takes_of rfl rfl rfl rfl) (E := E) (fun _ _ _ _ h => h)
  refine ⟨_, pss_cons (ps_expr (pe_call GC (hr.mono (by decide)) rfl gC kC bC .nil pL (pa_cons (pv 1) pa_nil)))
    (pss_one (ps_expr (pe_meth (pv 0) c.cl MG GG (hr.mono (by decide)) bG .nil pass0 (pa_cons (pv 1) (pa_cons (pe_fld (pv 0) rfl) pa_nil))))), ?_⟩
  refine ⟨v, rfl, S, v, is, rfl, fr, ?_, kE, fun z H1 s1 => ?_⟩
  · rcases hv with ⟨e, tv, g⟩ | ⟨e, od⟩
    · exact .inl ⟨e, ks, tv⟩
    · exact .inr ⟨e, od⟩
  obtain ⟨_, tv, gk⟩ : is = true ∧ TV CT ks (offS S H) v ∧ GoodT ks := by
    rcases hv with h | ⟨e, _⟩
    · exact h
    · rw [e] at z
      cases z
  have bd1 := bd.same m s1
  have fr1 := fr.mono s1
  obtain ⟨dx, t0, w0, xs, hb1, hp1, tv1, wv1, _⟩ := id bd1.ex
  refine ⟨.ref b, rfl, b, dx, _, rfl, hb1, bf_no _ _ _ _ (by decide +kernel), v, rfl, .ref b, rfl, b, CB, dx, _, _, rfl, hb1, c.cl, c.nW, bf_watched _ _ _ _, ?_⟩
  exact ⟨S, b, p, cap, st, past, v, w0, ks, st.qs, rfl, fr1, bd1, l9, tv.mono (offS_mono s1), gk, wv1, fun H' kb bd' => kQ z rfl H' ((Kb.of s1).trans kb) bd'⟩
/-! ### books made -/
def spInitU (CT CB : Addr) (QP : α → Hp → V → Prop) (NT : Addr) (chk : List Ro → Option Addr) : Sp := fun vs H Q E => ∃ (S : Addr → Bool) (x dx : Addr) (v : V) (ks : List Ro) (is : Bool), vs = [.ref x, v] ∧ Fr S H ∧ S x = false ∧ H x = some (.ins CB dx []) ∧ ((is = true ∧ TV CT ks (offS S H) v ∧ GoodT ks) ∨ (is = false ∧ OddV (offS S H) v)) ∧
  (is = false → ∀ H', Same H H' → E (.ref NT) none H') ∧ (is = true → ∀ N, chk ks = some N → ∀ H', Same H H' → E (.ref N) none H') ∧
  (is = true → chk ks = none → ∀ p H', H p = none → (∀ y o, y ≠ x → H y = some o → H' y = some o) → BD CT CB QP (addS (addS S x) p) x p none ⟨ks, []⟩ [] H' → Q .non H')
def spInitC (CT CB : Addr) (QP : α → Hp → V → Prop) (NT NN : Addr) (chk : Option Int → List Ro → Option Addr) : Sp := fun vs H Q E => ∃ (S : Addr → Bool) (x dx : Addr) (v vm : V) (ks : List Ro) (is : Bool) (dm : PyData), vs = [.ref x, v, vm] ∧ Fr S H ∧ S x = false ∧ H x = some (.ins CB dx []) ∧ Rp (offS S H) vm dm ∧ ((is = true ∧ TV CT ks (offS S H) v ∧ GoodT ks) ∨ (is = false ∧ OddV (offS S H) v)) ∧
  (is = false → ∀ H', Same H H' → E (.ref NT) none H') ∧ (is = true → isNum dm 1 10000 = false → ∀ H', Same H H' → E (.ref NN) none H') ∧
  (∀ c, is = true → dm = .int c → 1 ≤ c → c ≤ 10000 → (∀ N, chk (some c) ks = some N → ∀ H', Same H H' → E (.ref N) none H') ∧
    (chk (some c) ks = none → ∀ p H', H p = none → (∀ y o, y ≠ x → H y = some o → H' y = some o) → BD CT CB QP (addS (addS S x) p) x p (some c) ⟨ks, []⟩ [] H' → Q .non H'))
theorem binit_imp {CT CB NT : Addr} : ∀ vs H Q E, spInitU CT CB QP NT (fun _ => none) vs H Q E → spBInit CT CB QP NT vs H Q E := by
  rintro vs H Q E ⟨S, x, dx, v, ks, is, e, fr, sx, hx, hv, kE, _, kQ⟩
  exact ⟨S, x, dx, v, ks, is, e, fr, sx, hx, hv, kE, fun z => kQ z rfl⟩
theorem bd_cap {CT CB b p dx : Addr} {S : Addr → Bool} {st : BSt α} {past : List (BSt α)} {H : Hp} {c : Int} {t w : V} (m : QMon QP) (h : BD CT CB QP S b p none st past H) (hb : H b = some (.ins CB dx (bf t w p none))) : BD CT CB QP S b p (some c) st past (upd H b (.ins CB dx (bf t w p (some c)))) := by
  have bp := h.ne
  have off : Same (offS S H) (offS S (upd H b (.ins CB dx (bf t w p (some c))))) := fun x o e => by
    unfold offS at e ⊢
    by_cases hx : S x = true
    · rw [if_pos hx] at e
      cases e
    · rw [if_neg hx] at e ⊢
      have nx : x ≠ b := fun z => hx (by rw [z]; exact h.sb)
      rw [upd_ne nx]
      exact e
  obtain ⟨dx', t', w', xs, h1, h2, h3, h4, h5⟩ := id h.ex
  rw [hb] at h1
  simp only [Option.some.injEq, HO.ins.injEq, true_and, bf, List.cons.injEq, Prod.mk.injEq, and_true] at h1
  obtain ⟨rfl, rfl, rfl⟩ := h1
  exact ⟨⟨dx, t, w, xs, upd_same, by rw [upd_ne (Ne.symm bp)]; exact h2, h3.mono off, h4.ext m (.of off), Paired.mapP h5 fun s y z => z.ext m (.of off)⟩, h.sb, h.sp, h.g⟩
end
end Q

set_option maxHeartbeats 1000000
namespace Q
open PySem PySem.Spec PyProof.Rows L2 Ca LamX
/-! ### what a lambda's call gives -/
def tV (v : V) : TE := fun _ H Q => Q v H
theorem e_tV {v : V} {σ : L2.St} {F : Hp} {d : PyData} (r : Rp F v d) : EvD (tV v) σ F d := fun S H1 f s Q q => q v H1 (Same.refl _) (r.mono s)
def EvL (T : List (Addr × PySem.Str)) (S : Addr → Bool) (te : TE) (σ : L2.St) (H : Hp) (P : Hp → V → Prop) : Prop := ∀ Q : VK, (∀ v H2, ExtN H H2 → Tabs T H2 → Fr S H2 → P (offS S H2) v → Q v H2) → te σ H Q
section
variable {K : PySem.W.Frag} {S : Addr → Bool} {H : Hp} {l : List (Addr × PySem.Str)} {T : List (Addr × PySem.Str)} {σ : L2.St} {te tb : TE} {r : R2} {P : Hp → V → Prop} {D : L2.Ends} {a b u : TS} {c : Bool}
theorem l_refused {N : Addr} {x : PySem.Str} {t : XK → TE} (tT : Tabs T H) (fr : Fr S H) (ft : Fits K l (.ref N) x) (h : ∀ H1 (E : XK) (Q' : VK), ExtN H H1 → Fr S H1 → (∀ H2, Same H1 H2 → E (.ref N) none H2) → t E σ H1 Q') :
    EvL T S (tLam T (TSaid K l) t) σ H (fun H v => Rp H v (.list [.str x])) := fun Q q => ⟨tT, fun H1 e1 t1 => h H1 _ _ e1 (Fr.ext fr e1) fun H2 s2 => ⟨x, ft, fun a ha => by
  have sn := same_new (o := .lst [.str x]) ha
  have f2 := (Fr.ext fr e1).mono s2
  exact q (.ref a) _ (e1.trans (.of (s2.trans sn))) (t1.ext (s2.trans sn)) (f2.mono sn) (.lst (offS_new f2 ha) (.cons (.str _) .nil))⟩⟩
theorem go_ifL (h : EvL T S te σ H P) (hb : ∀ v H2, ExtN (offS S H) (offS S H2) → P (offS S H2) v → EvD (tOp r (tV v) tb) σ (offS S H2) (.bool c)) (k1 : c = true → ∀ H2, ExtN H H2 → Tabs T H2 → Fr S H2 → a D σ H2) (k2 : c = false → ∀ H2, ExtN H H2 → Tabs T H2 → Fr S H2 → b D σ H2) :
    tIfS (tTest (tOp r te tb)) a b D σ H := h _ fun v H2 e2 t2 f2 pv => (b_test (hb v H2 (ext_off e2) pv)) S H2 f2 (Same.refl _) _ fun H3 s3 => by
  cases c with
  | true =>
    rw [if_pos rfl]
    exact k1 rfl H3 (e2.trans (.of s3)) (t2.ext s3) (f2.mono s3)
  | false =>
    rw [if_neg (by decide)]
    exact k2 rfl H3 (e2.trans (.of s3)) (t2.ext s3) (f2.mono s3)
theorem go_ifLF (h : EvL T S te σ H P) (hb : ∀ v H2, ExtN (offS S H) (offS S H2) → P (offS S H2) v → EvD (tOp r (tV v) tb) σ (offS S H2) (.bool false)) (k2 : ∀ H2, ExtN H H2 → Tabs T H2 → Fr S H2 → b D σ H2) :
    tIfS (tTest (tOp r te tb)) a b D σ H := go_ifL h hb (fun z => by cases z) fun _ => k2
theorem go_ifAndLF {tt : L2.TT} (f : Fr S H) (tT : Tabs T H) (hc : EvB tt σ (offS S H) c) (h : c = true → ∀ H1, Same H H1 → Tabs T H1 → Fr S H1 → EvL T S te σ H1 P) (hb : c = true → ∀ v H2, P (offS S H2) v → EvD (tOp r (tV v) tb) σ (offS S H2) (.bool false)) (k : ∀ H2, ExtN H H2 → Tabs T H2 → Fr S H2 → b D σ H2) :
    tIfS (tAnd tt (tTest (tOp r te tb))) a b D σ H := hc S H f (Same.refl _) _ fun H1 s1 => by
  cases c with
  | true => exact go_ifLF (h rfl H1 s1 (tT.ext s1) (f.mono s1)) (fun v H2 _ pv => hb rfl v H2 pv) fun H2 e2 t2 f2 => k H2 ((ExtN.of s1).trans e2) t2 f2
  | false => exact k H1 (.of s1) (tT.ext s1) (f.mono s1)
theorem go_retL (h : EvL T S te σ H P) (hb : ∀ v H2, ExtN (offS S H) (offS S H2) → P (offS S H2) v → EvD (tOp r (tV v) tb) σ (offS S H2) (.bool c)) (k : ∀ H2, ExtN H H2 → Tabs T H2 → Fr S H2 → D.rt (.bl c) H2) :
    tRet (tOp r te tb) D σ H := h _ fun v H2 e2 t2 f2 pv => (hb v H2 (ext_off e2) pv) S H2 f2 (Same.refl _) _ fun w H3 s3 rw' => by
  cases rw'
  exact k H3 (e2.trans (.of s3)) (t2.ext s3) (f2.mono s3)
end
section
variable {K : PySem.W.Frag} {S : Addr → Bool} {H : Hp} {σ : L2.St} {te tb : TE} {D : L2.Ends} {a b : TS} {E : XK}
/-- what is told by a lambda's call compared with what is due -/
theorem go_ifEqL {R : V → Hp → Prop} (h : ∀ Q : VK, (∀ v H9, R v H9 → Q v H9) → te σ H Q) (k : ∀ v H9, R v H9 → ∃ d S, Fr S H9 ∧ Rp (offS S H9) v d ∧ EvD tb σ (offS S H9) d ∧ Fit d 50 1000000 ∧ ∀ H10, Same H9 H10 → b D σ H10) :
    tIfS (tNot (tB (tCall spEq [] E (tCons te (tCons tb tNil))))) a b D σ H := h _ fun v H9 r => by
  obtain ⟨d, S, f, rp, eb, ft, kk⟩ := k v H9 r
  have z : tNot (tB (tCall spEq [] E (tCons (tV v) (tCons tb tNil)))) σ H9 (fun c H1 => if c = true then a D σ H1 else b D σ H1) := (b_not (b := true) (b_val (e_eq (E := E) (e_tV rp) eb ft))) S H9 f (Same.refl _) _ fun H10 s10 => by
    rw [if_neg (by decide)]
    exact kk H10 s10
  exact z
end
theorem nq_no {x : PySem.Str} (h : PyData.strOk x = true) : eqOk (.list [.str x]) = true := (cq_lst (k := 0) fun d hd => by rw [List.mem_singleton.mp hd]; exact cq_str h).ok
end Q

set_option maxHeartbeats 1000000
namespace Q
open PySem PySem.Spec PyProof.Rows L2 Ca LamX
section
variable {K : PySem.W.Frag} {S : Addr → Bool} {H : Hp} {σ : L2.St} {te tb tl ta : TE} {D : L2.Ends} {t u a b : TS} {F : Hp} {g : TG}
/-- a loop over written data in which tables grow -/
theorem go_forLX {as : List PyData} (f : Fr S H) (h : EvD tl σ (offS S H) (.list as)) (k : ∀ H1, Same H H1 → Fr S H1 → ∃ Pv : Nat → L2.St → Hp → Prop, Pv 0 σ H1 ∧
    (∀ i σ' H', Pv i σ' H' → ExtN (offS S H1) (offS S H')) ∧
    (∀ i d x σ' H', as[i]? = some d → Rp (offS S H') x d → Pv i σ' H' → g x σ' H' fun σ2 H2 => t { D with nx := Pv (i + 1), ct := Pv (i + 1), bk := D.nx } σ2 H2) ∧
    (∀ σ' H', Pv as.length σ' H' → D.nx σ' H')) : tFor (iList K tl) g t D σ H :=
  h S H f (Same.refl _) _ fun v H1 s1 r => by
    obtain ⟨Pv, p0, pk, ps, pd⟩ := k H1 s1 (f.mono s1)
    cases r with
    | @lst l xs _ h1 r1 =>
      have hl : xs.length = as.length := r1.length
      have keep : ∀ i σ' H', Pv i σ' H' → H' l = some (.lst xs) := fun i σ' H' p => offS_same _ _ (pk i σ' H' p _ _ h1 (fun _ z => nomatch z))
      refine ⟨l, rfl, ⟨xs, .inl (.inl (offS_same _ _ h1))⟩, for_list (xs := xs) Pv p0 (fun i σ' H' _ p => .inl (.inl (keep i σ' H' p))) (fun i x σ' H' hx p => ?_) fun σ' H' p => pd σ' H' (by rw [hl] at p; exact p)⟩
      have hi : i < as.length := by rw [← hl]; exact (List.getElem?_eq_some_iff.mp hx).1
      obtain ⟨y, hy, ry⟩ := r1.at (show as[i]? = some as[i] by simp [hi])
      obtain rfl : y = x := Option.some.inj (hy.symm.trans hx)
      exact ps i _ y σ' H' (by simp [hi]) (Rp.ext (pk i σ' H' p) ry) p
theorem e_maxL {ns : List Int} {m : Int} (h : EvD ta σ F (.list (ns.map .int))) (hm : m ∈ ns) (hg : ∀ y ∈ ns, y ≤ m) : EvD (tCB (rMax K) (tCons ta tNil)) σ F (.int m) := e_cb (a_cons h a_nil) fun S H vs f r Q q => by
  obtain ⟨v, rfl, rv⟩ := rpa1 r
  obtain ⟨p, xs, rfl, hp, rx⟩ := rp_lst rv
  refine ⟨p, ns, rfl, .inl (.inl (by rw [← ints_rp rx]; exact hp)), List.length_pos_of_mem hm, fun k hk hg2 => ?_⟩
  obtain rfl : m = k := Int.le_antisymm (hg2 m hm) (hg k hk)
  exact q _ H (Same.refl _) (.int _)
theorem max_of : ∀ {ns : List Int}, ns ≠ [] → ∃ m ∈ ns, ∀ y ∈ ns, y ≤ m
  | [], h => absurd rfl h
  | [n], _ => ⟨n, .head _, fun y hy => by rw [List.mem_singleton.mp hy]; exact Int.le_refl _⟩
  | n :: k :: ns, _ => by
    obtain ⟨m, hm, hy⟩ := max_of (ns := k :: ns) (by simp)
    by_cases c : n ≤ m
    · refine ⟨m, .tail _ hm, fun y hy2 => ?_⟩
      cases hy2 with
      | head => exact c
      | tail _ h => exact hy y h
    · refine ⟨n, .head _, fun y hy2 => ?_⟩
      cases hy2 with
      | head => exact Int.le_refl _
      | tail _ h => have := hy y h; omega
end
section
variable {α : Type} {QP : α → Hp → V → Prop} {CT CB NT NN N : Addr} {chk : Option Int → List Ro → Option Addr} {S : Addr → Bool} {H : Hp} {v vm : V} {ks : List Ro} {is : Bool} {dm : PyData} {E : XK} {Q : VK} {σ : L2.St} {ta tb : TE}
/-- why a capped book is refused -/
inductive NoBook (NT NN : Addr) (chk : Option Int → List Ro → Option Addr) (ks : List Ro) : Bool → PyData → Addr → Prop where
  | tab {dm : PyData} : NoBook NT NN chk ks false dm NT
  | num {dm : PyData} (h : isNum dm 1 10000 = false) : NoBook NT NN chk ks true dm NN
  | chk {c : Int} {N : Addr} (c1 : 1 ≤ c) (c9 : c ≤ 10000) (h : chk (some c) ks = some N) : NoBook NT NN chk ks true (.int c) N
theorem mkC_no (fr : Fr S H) (no : NoBook NT NN chk ks is dm N) (ha : ∀ Q : VK, (∀ H2, Same H H2 → Q v H2) → ta σ H Q) (hb : ∀ H1, Same H H1 → ∀ Q : VK, (∀ H2, Same H1 H2 → Q vm H2) → tb σ H1 Q) (rm : Rp (offS S H) vm dm)
    (hv : (is = true ∧ TV CT ks (offS S H) v ∧ GoodT ks) ∨ (is = false ∧ OddV (offS S H) v)) (hE : ∀ H2, Same H H2 → E (.ref N) none H2) : tMake CB (spInitC CT CB QP NT NN chk) [] E (tCons ta (tCons tb tNil)) σ H Q := ha _ fun H1 s1 => hb H1 s1 _ fun H2 s2 x dx hx hd ne => by
  have n2 : upd H2 dx (.own x) x = none := by rw [upd_ne (Ne.symm ne)]; exact hx
  have sA : Same H (upd (upd H2 dx (.own x)) x (.ins CB dx [])) := (s1.trans s2).trans ((same_new hd).trans (same_new n2))
  have oA := offS_mono (S := S) sA
  refine ⟨S, x, dx, v, vm, ks, is, dm, rfl, fr.mono sA, (fr.mono (s1.trans s2)).new hx, upd_same, rm.mono oA, ?_, ?_, ?_, ?_⟩
  · rcases hv with ⟨e, tv, g⟩ | ⟨e, od⟩
    · exact .inl ⟨e, tv.mono oA, g⟩
    · refine .inr ⟨e, ?_⟩
      rcases od with ⟨d, r⟩ | ⟨a, xs, e2, h2⟩
      · exact .inl ⟨d, r.mono oA⟩
      · exact .inr ⟨a, xs, e2, oA _ _ h2⟩
  · intro z H' s'
    cases no with
    | tab => exact hE H' (sA.trans s')
    | num => cases z
    | chk => cases z
  · intro z z2 H' s'
    cases no with
    | tab => cases z
    | num => exact hE H' (sA.trans s')
    | chk c1 c9 h => simp [isNum, c1, c9] at z2
  · intro c z e c1 c9
    subst e
    cases no with
    | tab => cases z
    | num h => simp [isNum, c1, c9] at h
    | chk _ _ h =>
      refine ⟨fun N' hN H' s' => ?_, fun hN => ?_⟩
      · rw [h] at hN
        cases hN
        exact hE H' (sA.trans s')
      · rw [h] at hN
        cases hN
end
end Q

set_option maxHeartbeats 1000000
namespace Q
open PySem PySem.Spec PyProof.Rows L2 Ca LamX
/-! ### lists whose items are known one by one -/
def LPs (Ps : List (Hp → V → Prop)) : Hp → V → Prop := fun H v => ∃ a xs, v = .ref a ∧ H a = some (.lst xs) ∧ PsA H Ps xs
section
variable {K : PySem.W.Frag} {s : Addr} {σ : L2.St} {F : Hp} {tas : TA} {tl te : TE} {Ps : List (Hp → V → Prop)} {P : Hp → V → Prop}
theorem k_lstP (h : EvKA s tas σ F Ps) (m : ∀ P ∈ Ps, Mon P) (hl : Ps.length ≤ 1000) : EvK s (tLst tas) σ F (LPs Ps) := fun S H1 f hS hc sm Q q =>
  h S H1 f hS hc sm _ fun vs H2 k2 c2 r => ⟨by rw [r.length]; exact Nat.le_of_lt (small1000 hl), fun p hp => q _ _ (k2.trans (.of (same_new hp))) (src_same c2 (same_new hp)) ⟨p, vs, rfl, offS_new (k2.fr c2 f) hp, r.mono m (offS_mono (same_new hp))⟩⟩
theorem psa_at {H : Hp} {vs : List V} (r : PsA H Ps vs) {n : Nat} (h : Ps[n]? = some P) : ∃ v, vs[n]? = some v ∧ P H v := by
  induction r generalizing n with
  | nil => cases h
  | cons h1 r ih =>
    cases n with
    | zero =>
      cases h
      exact ⟨_, rfl, h1⟩
    | succ n => exact ih (n := n) h
theorem k_ixP {j n : Nat} {z : Int} (h : EvK s tl σ F (LPs Ps)) (hj : σ[j]? = some (some (.int z))) (hz : z = (n : Int)) (hn : Ps[n]? = some P) : EvK s (tOp (rIxL K) tl (tVar j)) σ F P := fun S H1 f hS hc sm Q q =>
  h S H1 f hS hc sm _ fun v H2 k2 c2 ⟨a, xs, e, ha, r⟩ => by
    subst e
    obtain ⟨w, hw, pw⟩ := psa_at r hn
    exact ⟨_, hj, a, xs, z, w, rfl, rfl, .inl (.inl (offS_same _ _ ha)), atI_of hz hw, q w H2 k2 c2 pw⟩
end
theorem go_unl2D {K : PySem.W.Frag} {σ : L2.St} {S : Addr → Bool} {H : Hp} {D : L2.Ends} {u : TS} {te : TE} {i j : Nat} {d1 d2 : PyData} (f : Fr S H) (h : EvD te σ (offS S H) (.list [d1, d2]))
    (q : ∀ v1 v2 H', Same H H' → Fr S H' → Rp (offS S H') v1 d1 → Rp (offS S H') v2 d2 → u D ((σ.set i (some v1)).set j (some v2)) H') :
    tSeq (tAsg te (gUnl K 2 (gCons (gName i) (gCons (gName j) gNil)))) u D σ H := h S H f (Same.refl _) _ fun v H' s' r => by
  obtain ⟨a, xs, rfl, h1, ra⟩ := rp_lst r
  obtain ⟨v1, v2, rfl, r1, r2⟩ := rpa2 ra
  exact ⟨a, _, rfl, .inl (.inl h1), rfl, _, _, rfl, _, _, rfl, rfl, q v1 v2 H' s' (f.mono s') r1 r2⟩
theorem ite_mk {c : Bool} {t1 t2 : TE} {σ : L2.St} {H : Hp} {Q : VK} {R : VK → Prop} (h1 : ∀ Q, c = true → R Q → t1 σ H Q) (h2 : ∀ Q, c = false → R Q → t2 σ H Q) (k : R Q) : if c = true then t1 σ H Q else t2 σ H Q := by
  cases c with
  | true =>
    rw [if_pos rfl]
    exact h1 Q rfl k
  | false =>
    rw [if_neg (by decide)]
    exact h2 Q rfl k
theorem b_isN {σ : L2.St} {F : Hp} {i : Nat} {a : Addr} (h : σ[i]? = some (some (.ref a))) : EvB (tTest (tOp (fun x y H Q => y = .non ∧ Q (.bl (decide (x = .non))) H) (tVar i) (tC .non))) σ F false := b_test fun S H1 f s Q q => ⟨_, h, rfl, q _ H1 (Same.refl _) (by rw [decide_eq_false (fun z => by cases z)]; exact .bl false)⟩
/-! ### a capped book is made; assignments that are refused -/
section
variable {α : Type} {QP : α → Hp → V → Prop} {K : PySem.W.Frag} {CT CB NT NN : Addr} {chk : Option Int → List Ro → Option Addr} {S : Addr → Bool} {H : Hp} {v : V} {ks : List Ro} {E : XK} {Q : VK} {T : List (Addr × PySem.Str)} {s : Addr} {c : Int}
theorem initC_ok (f : Fr S H) (hc : Src H s) (tT : Tabs T H) (g : GoodT ks) (tv : TV CT ks (offS S H) v) (c1 : 1 ≤ c) (c9 : c ≤ 10000) (hk : chk (some c) ks = none)
    (k : ∀ b p H', Same (offS S H) (offS (addS (addS S b) p) H') → Same H H' → Tabs T H' → Src H' s → p ≠ s → b ≠ s → Fr (addS (addS S b) p) H' → BD CT CB QP (addS (addS S b) p) b p (some c) ⟨ks, []⟩ [] H' → Q (.ref b) H') :
    ∀ x dx, H x = none → H dx = none → dx ≠ x → spInitC CT CB QP NT NN chk [.ref x, v, .int c] (upd (upd H dx (.own x)) x (.ins CB dx [])) (fun v H2 => v = .non ∧ Q (.ref x) H2) E := fun x dx hx hd ne => by
  have n2 : upd H dx (.own x) x = none := by rw [upd_ne (Ne.symm ne)]; exact hx
  have sA : Same H (upd (upd H dx (.own x)) x (.ins CB dx [])) := (same_new hd).trans (same_new n2)
  refine ⟨S, x, dx, v, .int c, ks, true, .int c, rfl, f.mono sA, f.new hx, upd_same, .int _, .inl ⟨rfl, tv.mono (offS_mono sA), g⟩, (fun z => by cases z), (fun _ z => by simp [isNum, c1, c9] at z), fun c' _ e _ _ => ?_⟩
  cases e
  refine ⟨(fun N hN => by rw [hk] at hN; cases hN), fun _ p H' hp kp bd => ⟨rfl, ?_⟩⟩
  have sH : Same H H' := fun y o e => kp y o (ne_of_none e hx) (sA _ _ e)
  have hp1 : H p = none := by
    cases e : H p with
    | none => rfl
    | some o =>
      rw [sA _ _ e] at hp
      cases hp
  have ns : ∀ {y}, H y = none → y ≠ s := fun {y} e z => by
    obtain ⟨a, b, c, e2⟩ := hc
    rw [z, e2] at e
    cases e
  have fr' : Fr (addS (addS S x) p) H' := fun a ha => by
    by_cases z1 : a = x
    · rw [z1]
      obtain ⟨dx, t, w, ys, h1, _⟩ := bd.ex
      exact ⟨_, h1, bf_mut _ _ _ _ _ _⟩
    · by_cases z2 : a = p
      · rw [z2]
        obtain ⟨ys, h1⟩ := bd.lst
        exact ⟨_, h1, trivial⟩
      · exact (f.mono sH) a (by simpa [addS, z1, z2] using ha)
  have off : Same (offS S H) (offS (addS (addS S x) p) H') := fun y o e => by
    have hy : S y = false := by
      cases z : S y with
      | false => rfl
      | true =>
        unfold offS at e
        rw [if_pos z] at e
        cases e
    rw [offS_at hy] at e
    have y1 : y ≠ x := ne_of_none e hx
    have y2 : y ≠ p := ne_of_none e hp1
    rw [offS_at (by simp [addS, hy, y1, y2])]
    exact sH _ _ e
  exact k x p H' off sH (tT.ext sH) (src_same hc sH) (ns hp1) (ns hx) fr' bd
variable {b p : Addr} {cap : Option Int} {st : BSt α} {past : List (BSt α)} {cs : Option Int → Prop} {is : Bool} {N : Addr} {l : List (Addr × PySem.Str)} {x : PySem.Str} {σ : L2.St} {i j : Nat}
/-- an assignment in a lambda that is refused -/
theorem asg_refused (m : QMon QP) (tT : Tabs T H) (fr : Fr S H) (bd : BD CT CB QP S b p cap st past H) (l9 : past.length ≤ 900) (hcs : cs cap) (hi : σ[i]? = some (some (.ref b))) (hj : σ[j]? = some (some v))
    (no : (is = false ∧ OddV (offS S H) v ∧ N = NT) ∨ (is = true ∧ (TV CT ks (offS S H) v ∧ GoodT ks) ∧ chk cap ks = some N)) (ft : Fits K l (.ref N) x) :
    EvL T S (tLam T (TSaid K l) fun E => tMeth CB "assign_table" (spAsg CT CB QP NT cs chk) [] E (tVar i) (tCons (tVar j) tNil)) σ H (fun H v => Rp H v (.list [.str x])) := l_refused tT fr ft fun H1 E Q' e1 f1 hE => by
  have bd1 := bd.ext m e1
  obtain ⟨dx, fs, hb, hm⟩ := bd1.ins
  have o1 := ext_off (S := S) e1
  refine ⟨_, hi, b, dx, fs, rfl, hb, hm _ (by decide +kernel), _, hj, S, b, p, cap, st, past, v, ks, is, rfl, f1, bd1, l9, hcs, ?_, fun z H' s' => ?_, fun z N' hN H' s' => ?_, fun z hN => ?_⟩
  · rcases no with ⟨e, od, _⟩ | ⟨e, ⟨tv, g⟩, _⟩
    · refine .inr ⟨e, ?_⟩
      rcases od with ⟨d, r⟩ | ⟨a, xs, e2, h2⟩
      · exact .inl ⟨d, Rp.ext o1 r⟩
      · exact .inr ⟨a, xs, e2, o1 _ _ h2 (fun _ z => nomatch z)⟩
    · exact .inl ⟨e, tv.ext o1, g⟩
  · rcases no with ⟨_, _, rfl⟩ | ⟨e, _⟩
    · exact hE H' s'
    · rw [e] at z
      cases z
  · rcases no with ⟨e, _⟩ | ⟨_, _, e⟩
    · rw [e] at z
      cases z
    · rw [e] at hN
      cases hN
      exact hE H' s'
  · rcases no with ⟨e, _⟩ | ⟨_, _, e⟩
    · rw [e] at z
      cases z
    · rw [e] at hN
      cases hN
end
end Q

set_option maxHeartbeats 1000000
namespace Q
open PySem PySem.Spec PyProof.Rows L2 Ca LamX
/-! ### books of one argument made, refused, told -/
section
variable {α : Type} {QP : α → Hp → V → Prop} {K : PySem.W.Frag} {CT CB NT N : Addr} {chk : List Ro → Option Addr} {S : Addr → Bool} {H : Hp} {v : V} {ks : List Ro} {E : XK} {Q : VK} {T : List (Addr × PySem.Str)} {s : Addr} {is : Bool} {σ : L2.St} {ta te tb : TE} {D : L2.Ends} {u a b : TS}
theorem initU_ok (f : Fr S H) (hc : Src H s) (tT : Tabs T H) (g : GoodT ks) (tv : TV CT ks (offS S H) v) (hk : chk ks = none)
    (k : ∀ b p H', Same (offS S H) (offS (addS (addS S b) p) H') → Same H H' → Tabs T H' → Src H' s → p ≠ s → b ≠ s → Fr (addS (addS S b) p) H' → BD CT CB QP (addS (addS S b) p) b p none ⟨ks, []⟩ [] H' → Q (.ref b) H') :
    ∀ x dx, H x = none → H dx = none → dx ≠ x → spInitU CT CB QP NT chk [.ref x, v] (upd (upd H dx (.own x)) x (.ins CB dx [])) (fun v H2 => v = .non ∧ Q (.ref x) H2) E := fun x dx hx hd ne => by
  have n2 : upd H dx (.own x) x = none := by rw [upd_ne (Ne.symm ne)]; exact hx
  have sA : Same H (upd (upd H dx (.own x)) x (.ins CB dx [])) := (same_new hd).trans (same_new n2)
  refine ⟨S, x, dx, v, ks, true, rfl, f.mono sA, f.new hx, upd_same, .inl ⟨rfl, tv.mono (offS_mono sA), g⟩, (fun z => by cases z), (fun _ N hN => by rw [hk] at hN; cases hN), fun _ _ p H' hp kp bd => ⟨rfl, ?_⟩⟩
  have sH : Same H H' := fun y o e => kp y o (ne_of_none e hx) (sA _ _ e)
  have hp1 : H p = none := by
    cases e : H p with
    | none => rfl
    | some o =>
      rw [sA _ _ e] at hp
      cases hp
  have ns : ∀ {y}, H y = none → y ≠ s := fun {y} e z => by
    obtain ⟨a, b, c, e2⟩ := hc
    rw [z, e2] at e
    cases e
  have fr' : Fr (addS (addS S x) p) H' := fun a ha => by
    by_cases z1 : a = x
    · rw [z1]
      obtain ⟨dx, t, w, ys, h1, _⟩ := bd.ex
      exact ⟨_, h1, bf_mut _ _ _ _ _ _⟩
    · by_cases z2 : a = p
      · rw [z2]
        obtain ⟨ys, h1⟩ := bd.lst
        exact ⟨_, h1, trivial⟩
      · exact (f.mono sH) a (by simpa [addS, z1, z2] using ha)
  have off : Same (offS S H) (offS (addS (addS S x) p) H') := fun y o e => by
    have hy : S y = false := by
      cases z : S y with
      | false => rfl
      | true =>
        unfold offS at e
        rw [if_pos z] at e
        cases e
    rw [offS_at hy] at e
    have y1 : y ≠ x := ne_of_none e hx
    have y2 : y ≠ p := ne_of_none e hp1
    rw [offS_at (by simp [addS, hy, y1, y2])]
    exact sH _ _ e
  exact k x p H' off sH (tT.ext sH) (src_same hc sH) (ns hp1) (ns hx) fr' bd
theorem go_bookU {i : Nat} (f : Fr S H) (hc : Src H s) (tT : Tabs T H) (g : GoodT ks) (hk : chk ks = none) (h : EvP te σ (offS S H) (TV CT ks)) (k : ∀ b p H', Same (offS S H) (offS (addS (addS S b) p) H') → Same H H' → Tabs T H' → Src H' s → p ≠ s → b ≠ s → Fr (addS (addS S b) p) H' → BD CT CB QP (addS (addS S b) p) b p none ⟨ks, []⟩ [] H' → u D (σ.set i (some (.ref b))) H') :
    tSeq (tAsg (tMake CB (spInitU CT CB QP NT chk) [] E (tCons te tNil)) (gName i)) u D σ H := h S H f (Same.refl _) _ fun v H1 s1 tv x dx hx hd ne =>
  initU_ok (s := s) (Q := fun y H' => u D (σ.set i (some y)) H') (f.mono s1) (src_same hc s1) (tT.ext s1) g tv hk (fun b p H' off sH tT' src' n1 n2 fr' bd => k b p H' ((offS_mono s1).trans off) (s1.trans sH) tT' src' n1 n2 fr' bd) x dx hx hd ne
/-- why such a book is refused -/
inductive NoBookU (NT : Addr) (chk : List Ro → Option Addr) (ks : List Ro) : Bool → Addr → Prop where
  | tab : NoBookU NT chk ks false NT
  | chk {N : Addr} (h : chk ks = some N) : NoBookU NT chk ks true N
theorem mkU_no (fr : Fr S H) (no : NoBookU NT chk ks is N) (ha : ∀ Q : VK, (∀ H2, Same H H2 → Q v H2) → ta σ H Q) (hv : (is = true ∧ TV CT ks (offS S H) v ∧ GoodT ks) ∨ (is = false ∧ OddV (offS S H) v)) (hE : ∀ H2, Same H H2 → E (.ref N) none H2) :
    tMake CB (spInitU CT CB QP NT chk) [] E (tCons ta tNil) σ H Q := ha _ fun H2 s2 x dx hx hd ne => by
  have n2 : upd H2 dx (.own x) x = none := by rw [upd_ne (Ne.symm ne)]; exact hx
  have sA : Same H (upd (upd H2 dx (.own x)) x (.ins CB dx [])) := s2.trans ((same_new hd).trans (same_new n2))
  have oA := offS_mono (S := S) sA
  refine ⟨S, x, dx, v, ks, is, rfl, fr.mono sA, (fr.mono s2).new hx, upd_same, ?_, ?_, ?_, ?_⟩
  · rcases hv with ⟨e, tv, g⟩ | ⟨e, od⟩
    · exact .inl ⟨e, tv.mono oA, g⟩
    · exact .inr ⟨e, od.mono oA⟩
  · intro z H' s'
    cases no with
    | tab => exact hE H' (sA.trans s')
    | chk => cases z
  · intro z N' hN H' s'
    cases no with
    | tab => cases z
    | chk h =>
      rw [h] at hN
      cases hN
      exact hE H' (sA.trans s')
  · intro z hN
    cases no with
    | tab => cases z
    | chk h =>
      rw [h] at hN
      cases hN
/-! ### the first part of what is told -/
theorem at0 {z : V} {zs : List V} : atI (z :: zs) 0 = some z := atI_of (n := 0) rfl rfl
def FirstP (x : PySem.Str) : Hp → V → Prop := fun H v => ∃ a ys, v = .ref a ∧ H a = some (.lst (.str x :: ys))
variable {l : List (Addr × PySem.Str)} {t : XK → TE} {c : Bool} {x y : PySem.Str}
theorem l_first (tT : Tabs T H) (fr : Fr S H) (ft : c = false → Fits K l (.ref N) y) (h : ∀ H1 (E : XK) (Q' : VK), ExtN H H1 → Tabs T H1 → Fr S H1 → (c = true → ∀ v H2, Same H1 H2 → Q' v H2) → (c = false → ∀ H2, Same H1 H2 → E (.ref N) none H2) → t E σ H1 Q') :
    EvL T S (tLam T (TSaid K l) t) σ H (FirstP (if c = true then "told" else y)) := fun Q q => ⟨tT, fun H1 e1 t1 => h H1 _ _ e1 t1 (Fr.ext fr e1) (fun z v H2 s2 => ⟨by show 2 ≤ sizeLine; decide, fun a ha => by
    have sn := same_new (o := .lst [.str "told", v]) ha
    have f2 := (Fr.ext fr e1).mono s2
    exact q (.ref a) _ (e1.trans (.of (s2.trans sn))) (t1.ext (s2.trans sn)) (f2.mono sn) ⟨a, [v], rfl, by rw [if_pos z]; exact offS_new f2 ha⟩⟩) fun z H2 s2 => ⟨y, ft z, fun a ha => by
    have sn := same_new (o := .lst [.str y]) ha
    have f2 := (Fr.ext fr e1).mono s2
    exact q (.ref a) _ (e1.trans (.of (s2.trans sn))) (t1.ext (s2.trans sn)) (f2.mono sn) ⟨a, [], rfl, by rw [if_neg (by rw [z]; decide)]; exact offS_new f2 ha⟩⟩⟩
theorem l_ix0 (h : EvL T S te σ H (FirstP x)) : EvL T S (tOp (rIxL K) te (tC (.int 0))) σ H (fun _ v => v = .str x) := fun Q q => h _ fun v H2 e2 t2 f2 ⟨a, ys, ev, ha⟩ => ⟨a, _, 0, .str x, ev, rfl, .inl (.inl (offS_same _ _ ha)), at0, q _ H2 e2 t2 f2 rfl⟩
theorem go_ifR {R : V → Hp → Prop} {r : R2} (h : ∀ Q : VK, (∀ v H2, R v H2 → Q v H2) → te σ H Q) (k : ∀ v H2, R v H2 → ∃ S, Fr S H2 ∧ EvD (tOp r (tV v) tb) σ (offS S H2) (.bool false) ∧ ∀ H3, Same H2 H3 → b D σ H3) : tIfS (tTest (tOp r te tb)) a b D σ H := h _ fun v H2 rv => by
  obtain ⟨S, f2, e, kk⟩ := k v H2 rv
  exact (b_test e) S H2 f2 (Same.refl _) _ fun H3 s3 => by
    rw [if_neg (by decide)]
    exact kk H3 s3
theorem r_ix0 {R : Hp → Prop} (h : ∀ Q : VK, (∀ a ys H2, H2 a = some (.lst (.str x :: ys)) → R H2 → Q (.ref a) H2) → te σ H Q) : ∀ Q : VK, (∀ v H2, (v = .str x ∧ R H2) → Q v H2) → tOp (rIxL K) te (tC (.int 0)) σ H Q := fun Q q => h _ fun a ys H2 ha r => ⟨a, _, 0, .str x, rfl, rfl, .inl (.inl ha), at0, q _ H2 ⟨rfl, r⟩⟩
end
section
variable {α : Type} {QP : α → Hp → V → Prop} {K : PySem.W.Frag} {CT CB NT N b p : Addr} {S : Addr → Bool} {H : Hp} {v : V} {ks : List Ro} {Q : VK} {T : List (Addr × PySem.Str)} {cap : Option Int} {st : BSt α} {past : List (BSt α)} {cs : Option Int → Prop} {chk : Option Int → List Ro → Option Addr} {l : List (Addr × PySem.Str)} {x : PySem.Str} {σ : L2.St} {i j : Nat}
/-- an assignment in a lambda, told or refused -/
theorem asg_said (m : QMon QP) (tT : Tabs T H) (fr : Fr S H) (bd : BD CT CB QP S b p cap st past H) (l9 : past.length ≤ 900) (hcs : cs cap) (hi : σ[i]? = some (some (.ref b))) (hj : σ[j]? = some (some v)) (tv : TV CT ks (offS S H) v) (g : GoodT ks)
    (ft : (chk cap ks = none ∧ x = "told") ∨ ∃ N, chk cap ks = some N ∧ Fits K l (.ref N) x) (k : ∀ a ys H', H' a = some (.lst (.str x :: ys)) → KbE b p H H' ∧ Tabs T H' ∧ Fr S H' → Q (.ref a) H') :
    tLam T (TSaid K l) (fun E => tMeth CB "assign_table" (spAsg CT CB QP NT cs chk) [] E (tVar i) (tCons (tVar j) tNil)) σ H Q := ⟨tT, fun H1 e1 t1 => by
  have bd1 := bd.ext m e1
  obtain ⟨dx, fs, hb, hm⟩ := bd1.ins
  obtain ⟨xs, hp⟩ := bd1.lst
  have o1 := ext_off (S := S) e1
  have f1 := Fr.ext fr e1
  refine ⟨_, hi, b, dx, fs, rfl, hb, hm _ (by decide +kernel), _, hj, S, b, p, cap, st, past, v, ks, true, rfl, f1, bd1, l9, hcs, .inl ⟨rfl, tv.ext o1, g⟩, (fun z => by cases z), fun _ N' hN H' s' => ?_, fun _ hN H' kb bd' => ⟨by show 2 ≤ sizeLine; decide, fun a ha => ?_⟩⟩
  · rcases ft with ⟨e, _⟩ | ⟨N, e, ft⟩
    · rw [e] at hN
      cases hN
    · rw [e] at hN
      cases hN
      refine ⟨x, ft, fun a ha => ?_⟩
      have sn := s'.trans (same_new (o := .lst [.str x]) ha)
      exact k a [] _ upd_same ⟨KbE.of e1 (Kb.of sn), t1.ext sn, f1.mono sn⟩
  · rcases ft with ⟨_, rfl⟩ | ⟨N, e, _⟩
    · have sn := same_new (o := .lst [.str "told", .non]) ha
      exact k a [.non] _ upd_same ⟨KbE.of e1 (kb.trans (Kb.of sn)), (tabs_kb t1 hb hp kb).ext sn, (bd'.fr kb f1).mono sn⟩
    · rw [e] at hN
      cases hN⟩
end
/-! ### isinstance(book, Book) -/
structure IsS (K : PySem.W.Frag) (C D : Addr) : Prop where
  a : PySem.W.findIn K (.ref C) "__class__" = some (some (.builtin "object.__class__"))
  n : PySem.W.specialIn K (.builtin "object.__class__") "__get__" = some (some (.builtin "getset_descriptor.__get__"))
  t : PySem.W.takesIn K (.builtin "object.__class__") = some true
  m : PySem.W.mroIn K C (.type "object") = some true
  kit : PySem.W.kitOne K (.ref C) (.ref D) = some true
theorem e_isiSub {K : PySem.W.Frag} {σ : L2.St} {F : Hp} {i : Nat} {te : TE} {C D b : Addr} (cl : Cls K C) (is : IsS K C D) (h : σ[i]? = some (some (.ref b))) (hi : ∃ dx fs, F b = some (.ins C dx fs)) (hc : EvP te σ F fun _ v => v = .ref D) :
    EvD (tCB (rIsi K) (tCons (tVar i) (tCons te tNil))) σ F (.bool true) := fun S H1 f s Q q => ⟨_, h, hc S H1 f s _ fun w H3 s3 ew => by
  subst ew
  obtain ⟨dx, fs, hb⟩ := hi
  exact ⟨_, _, _, _, true, rfl, .own D, .base (.ins (s3 _ _ (offS_same _ _ (s _ _ hb))) cl is.a is.n is.t is.m), is.kit, q _ H3 s3 (.bl _)⟩⟩
end Q

set_option maxHeartbeats 400000
namespace Ca
open PySem PySem.Spec PyProof.Rows L2
/-! x[y], x an instance whose class has __getitem__ as a def -/
structure OwnIx (K : PySem.W.Frag) (C f : Addr) : Prop where
  has : PySem.W.findIn K (.ref C) "__getitem__" = some (some (.ref f))
  fn : PySem.W.isFn K (.ref f) = true
  fi : PySem.W.fnIn K f = true
def rIxO (C : Addr) (sp : Sp) (E : XK) : R2 := fun x y H Q => ∃ a dx fs, x = .ref a ∧ H a = some (.ins C dx fs) ∧ sp [x, y] H Q E
theorem pe_ixO {X : Cx} {CX : CXT} {k : Nat} {f C : Addr} {fd : FuncData} {ps : List PySem.Str} {sp : Sp} {E : XK} {a b : Expr} {ta tb : TE} {pos : Pos} (o : OwnIx X.K C f) (F : FnOk X.prog X.w X.K X.mg X.base CX k f fd ps sp) (hb : Binds X.K fd ps []) (hr : Room (k + 1) X.A) (hx : Passes CX X E)
    (ha : PE X a ta) (hc : PE X b tb) (hl : ps.length = 2 := by rfl) (hsl : ∀ v u, subscripted b true v u = runValue (.builtin "lifetime.subscript" ⟨[v, u], []⟩) := by intro _ _; with_unfolding_all rfl) :
    PE X (.Subscript a b pos) (tOp (rIxO C sp E) ta tb) := by
  refine ⟨fun pins s σ H Q I h => Subscript_ (binT ha hc I h fun v u s2 x y H2 I2 rx ry q => ?_)⟩
  obtain ⟨p, dx, fs, rfl, hp, q⟩ := q
  cases (show v = Value.ref p from rx)
  obtain ⟨mA, O, _⟩ := ins_get I2.hok hp
  obtain ⟨od, J, _⟩ := O.look
  obtain ⟨m, fr⟩ := I2.fr
  have r2 : Vals [V.ref p, y] [Value.ref p, u] := .cons rx (.cons ry .nil)
  have bn := hb s2 [.ref p, u] I2.kIn (by rw [hl]; rfl)
  rw [List.append_nil] at bn
  refine PySem.W.sub_K fr I2.ok.mod.kin J o.has o.fi o.fn ?_ (hsl _ _)
  refine wpAny_call (codeAny_mono (F.run X.A.in1 X.stack s2 H2 ⟨[.ref p, u], []⟩ [.ref p, u] [.ref p, y] Q E hr.in1 I2.env0.in1 bn r2 q) fun r s' hq => ?_)
  cases r with
  | error e => exact hx pins σ H2 s2 e s' I2 hq
  | ok fl =>
    cases fl with
    | ret w => exact I2.after hq
    | next => exact False.elim hq
    | brk => exact False.elim hq
    | cont => exact False.elim hq
end Ca

set_option maxHeartbeats 1000000
namespace Q
open PySem PySem.Spec PyProof.Rows L2 Ca
/-! ### table[..] -/
def cnt (ks : List Ro) (k : List Key) : Int := ((ks.filter fun a => decide (roK a = k)).map (·.n)).sum
theorem cnt_nil {k : List Key} : cnt [] k = 0 := rfl
theorem cnt_cons {a : Ro} {ks : List Ro} {k : List Key} : cnt (a :: ks) k = (if roK a = k then a.n else 0) + cnt ks k := by
  unfold cnt
  by_cases e : roK a = k
  · rw [List.filter_cons_of_pos (by simp [e]), List.map_cons, List.sum_cons, if_pos e]
  · rw [List.filter_cons_of_neg (by simp [e]), if_neg e, Int.zero_add]
theorem cnt_app {ks ls : List Ro} {k : List Key} : cnt (ks ++ ls) k = cnt ks k + cnt ls k := by
  unfold cnt
  rw [List.filter_append, List.map_append, List.sum_append]
theorem cnt_perm {ks rs : List Ro} {k : List Key} (p : ks.Perm rs) : cnt ks k = cnt rs k := by
  induction p with
  | nil => rfl
  | cons x _ ih => rw [cnt_cons, cnt_cons, ih]
  | swap x y l =>
    rw [cnt_cons, cnt_cons, cnt_cons, cnt_cons]
    omega
  | trans _ _ h1 h2 => exact h1.trans h2
theorem cnt_ge {ks : List Ro} {k : List Key} (g : ∀ a ∈ ks, 1 ≤ a.n) : 0 ≤ cnt ks k := by
  induction ks with
  | nil => exact Int.le_refl _
  | cons a ks ih =>
    rw [cnt_cons]
    have := ih fun b hb => g b (.tail _ hb)
    have := g a (.head _)
    split <;> omega
theorem cnt_pos {ks : List Ro} {k : List Key} (g : ∀ a ∈ ks, 1 ≤ a.n) (h : ∃ a ∈ ks, roK a = k) : 1 ≤ cnt ks k := by
  induction ks with
  | nil =>
    obtain ⟨a, ha, _⟩ := h
    cases ha
  | cons b ks ih =>
    rw [cnt_cons]
    have g2 : ∀ a ∈ ks, 1 ≤ a.n := fun a ha => g a (.tail _ ha)
    have := cnt_ge (k := k) g2
    have := g b (.head _)
    by_cases e : roK b = k
    · rw [if_pos e]
      omega
    · rw [if_neg e]
      obtain ⟨a, ha, e2⟩ := h
      rcases List.mem_cons.mp ha with z | z
      · rw [z] at e2
        exact absurd e2 e
      · have := ih g2 ⟨a, z, e2⟩
        omega
theorem cnt_zero {ks : List Ro} {k : List Key} (h : ∀ a ∈ ks, roK a ≠ k) : cnt ks k = 0 := by
  unfold cnt
  have : (ks.filter fun a => decide (roK a = k)) = [] := List.filter_eq_nil_iff.mpr fun a ha z => h a ha (of_decide_eq_true z)
  rw [this]
  rfl
theorem cnt_zero_iff {ks : List Ro} {k : List Key} (g : ∀ a ∈ ks, 1 ≤ a.n) : cnt ks k = 0 ↔ ∀ a ∈ ks, roK a ≠ k := by
  constructor
  · intro h a ha e
    have := cnt_pos g ⟨a, ha, e⟩
    omega
  · exact cnt_zero
theorem cnt_one {ks : List Ro} {a : Ro} (n : (ks.map roK).Nodup) (h : a ∈ ks) : cnt ks (roK a) = a.n := by
  induction ks with
  | nil => cases h
  | cons b ks ih =>
    rw [List.map_cons, List.nodup_cons] at n
    rw [cnt_cons]
    rcases List.mem_cons.mp h with z | z
    · subst z
      rw [if_pos rfl, cnt_zero fun c hc e => n.1 (List.mem_map.mpr ⟨c, hc, e⟩), Int.add_zero]
    · have ne : roK b ≠ roK a := fun e => n.1 (List.mem_map.mpr ⟨a, z, e.symm⟩)
      rw [if_neg ne, Int.zero_add, ih n.2 z]
theorem bSum : bootBuiltins "sum" = some (.builtin "sum") := by decide +kernel
def kOf (k : PySem.Str) (l r : Int) : List Key := [.inr k, .inl l, .inl r]
theorem key_eqvB (a : Ro) (k : PySem.Str) (l r : Int) : PyData.eqv (keyD a.k a.l a.r) (keyD k l r) = decide (roK a = kOf k l r) := by
  rw [Bool.eq_iff_iff, decide_eq_true_eq]
  exact key_eqv a k l r
abbrev s_tget : Stmt := inClass cT 3
abbrev n_tget : List PySem.Str := ["self", "at", "row"]
theorem sc_tget : FnScope n_tget ["self", "at"] (defScope s_tget) := ⟨rfl, rfl, rfl, by decide +kernel, rfl, by decide +kernel, by decide +kernel⟩
def IGet (C : Addr) : Hp → List V → (Hp → V → Prop) → Prop := fun F vs P => ∃ vt va ks k l r, vs = [vt, va] ∧ TV C ks F vt ∧ ks.length ≤ 12 ∧ (∀ a ∈ ks, GoodR a) ∧ Rp F va (keyD k l r) ∧ isTri (keyD k l r) 99 = true ∧ kindOk k = true ∧ P = fun H v => Rp H v (.int (cnt ks (kOf k l r)))
theorem tri_of {a : Ro} (g : GoodR a) : isTri (keyD a.k a.l a.r) 99 = true := by
  simp [isTri, keyD, isNum, g.k, g.l0, g.l9, g.r0, g.r9]
section
variable {P : Program} {w : World} {K : PySem.W.Frag} {mg : PySem.Str → Option Value} {base : Heap}
theorem ok_tget {f C N : Addr} {fd : FuncData} (F : FnM K "__getitem__" "Table.__getitem__" s_tget f fd) (T : Tx K mg) (gS : mg "sum" = none) (TQ : TT K mg C N) (D1 : Fd P w K mg base "is_key" 3 ["thing"] (spR RKey)) : FnOk P w K mg base CX0 4 f fd ["self", "at"] (spQ (IGet C)) := by
  obtain ⟨f1, fd1, G1, b1, k1, m1⟩ := D1.ex
  refine F.ok sc_tget (spQ_len (by rintro _ _ _ ⟨vt, va, ks, k, l, r, rfl, _⟩; rfl)) (fun cdv A outer s H vs Q E hr h => ?_)
  obtain ⟨S, P0, fr, ⟨vt, va, ks, k, l, r, rfl, tv, lk, g, ra, tri, kk, rfl⟩, q⟩ := h
  refine ⟨_, PSs.nox (pss_cons (ps_if (pt_not (pt_val (pe_call G1 (hr.mono (by decide)) rfl m1 k1 b1 .nil pass0 (pa_cons (pv 1) pa_nil)))) pss_never pss_nil)
    (pss_one (ps_ret (pe_callB (cr_sum rfl : CallR _ _ (rSum K)) (by rfl) gS bSum (pa_cons (pe_lc (own := [("row", 2)]) (g := gName 2) rfl sc_tget.nd (pi_tupQ (K := K) rfl (pe_fld (pv 0) rfl)) (blkOk_by (own := [("row", 2)]) (N := n_tget) (sc := defScope s_tget) (by decide +kernel)) (fun _ _ _ _ _ => pg_name (i := 2) sc_tget.nd rfl (Or.inl rfl))
      (fun _ _ _ _ _ => pts_one (pt_cmpR (op_eqD hr.units : OpR _ _ (rEqD K)) (pe_slice (sl_tupA : SlR _ (rSlA K)) (pv 2) po_none (po_some pe_int)) (pv 1) (nomark _))) (fun _ _ _ _ _ => pe_ix (ix_tup : IxR _ (rIxT K)) (pv 2) pe_int (fun _ _ => rfl))) pa_nil))))), ?_⟩
  refine go_ifS (b := false) fr (by
    have := b_not (b_val (e_call (E := E0) (R := RKey) (tas := tCons (tVar 1) tNil) (σ := start n_tget [vt, va]) (F := offS S H) (a_cons (e_var rfl ra) a_nil) ⟨_, rfl, rfl⟩))
    rw [tri] at this
    exact this) (fun z => by cases z) fun _ H1 s1 fr1 => ?_
  have tv1 := tv.mono (offS_mono (S := S) s1)
  have ra1 := ra.mono (offS_mono (S := S) s1)
  refine go_ret (te := tCB (rSum K) (tCons (tLc (iTup K (tFld K (tVar 0) "kept")) (gName 2) (tTest (tOp (rEqD K) (tSl (rSlA K) (tVar 2) tNoPart (tPart (tC (V.int 3)))) (tVar 1))) (tOp (rIxT K) (tVar 2) (tC (V.int 3))) [2]) tNil)) (D := { nx := fun x H' => Q V.non H', rt := Q }) (P := fun H v => Rp H v (.int (cnt ks (kOf k l r)))) fr1 ?h fun v H2 s2 r2 => q v H2 (s1.trans s2) r2
  refine eqD (e_sum (K := K) (ds := (ks.filter fun a => decide (roK a = kOf k l r)).map fun a => .int a.n) (e_lcT (K := K) (enc := roD) (b := fun a => decide (roK a = kOf k l r)) (ev := fun a => .int a.n) (e_kept TQ.cl TQ.nK (e_varP (P := TV C ks) rfl fun _ sm => tv1.mono sm)) (by omega) fun a ha x F2 sF rx => g_name ⟨rfl, b_test (eqD (e_eqD (d := keyD a.k a.l a.r) (e := keyD k l r) (e_slT (e_var rfl rx) o_none (o_some (e_int (i := 3)))) (e_var rfl (ra1.mono sF)) (cq_key (n := 0) _ _ (g a ha).k).ok (cq_key (n := 0) _ _ kk).ok) (by rw [key_eqvB])), fun _ => e_ixT (n := 3) (e_var rfl rx) e_int rfl rfl⟩) fun d hd => ?_) ?_
  · obtain ⟨a, _, rfl⟩ := List.mem_map.mp hd
    exact ⟨_, rfl⟩
  · rw [List.map_map]
    rfl
end
theorem e_ixO {σ : L2.St} {F : Hp} {ta tb : TE} {C : Addr} {ks : List Ro} {k : PySem.Str} {l r : Int} {E : XK} (h : EvP ta σ F (TV C ks)) (hk : EvD tb σ F (keyD k l r)) (lk : ks.length ≤ 12) (g : ∀ a ∈ ks, GoodR a) (tri : isTri (keyD k l r) 99 = true) (kk : kindOk k = true) :
    EvD (tOp (rIxO C (spQ (IGet C)) E) ta tb) σ F (.int (cnt ks (kOf k l r))) := fun S H1 f s Q q =>
  h S H1 f s _ fun v H2 s2 p => hk S H2 (f.mono s2) (s.trans (offS_mono s2)) _ fun w H3 s3 rw => by
    have p3 := p.mono (offS_mono (S := S) s3)
    obtain ⟨a, dx, o, rfl, ha⟩ := tv_ins p3
    exact ⟨a, dx, _, rfl, offS_same _ _ ha, S, _, f.mono (s2.trans s3), ⟨_, w, ks, k, l, r, rfl, p3, lk, g, rw, tri, kk, rfl⟩, fun v H4 s4 r4 => q v H4 ((s2.trans s3).trans s4) r4⟩
end Q

set_option maxHeartbeats 400000
namespace Q
open PySem PySem.Spec PyProof.Rows L2 He Ca
def ixB (x : PySem.Str) (K : PySem.W.Frag) : Bool := eqO (PySem.W.findIn K (.ref (ga K x)) "__getitem__") (some (some (.ref (ma K (ga K x) "__getitem__")))) && (PySem.W.isFn K (.ref (ma K (ga K x) "__getitem__")) && PySem.W.fnIn K (ma K (ga K x) "__getitem__"))
theorem ix_ok {x : PySem.Str} {K : PySem.W.Frag} (h : ixB x K = true) : OwnIx K (ga K x) (ma K (ga K x) "__getitem__") := by
  obtain ⟨h1, h⟩ := ba h
  obtain ⟨h2, h3⟩ := ba h
  exact ⟨eqO_ok h1, h2, h3⟩
def isSB (x y : PySem.Str) (K : PySem.W.Frag) : Bool :=
  (eqO (PySem.W.findIn K (.ref (ga K x)) "__class__") (some (some (.builtin "object.__class__"))) && eqO (PySem.W.specialIn K (.builtin "object.__class__") "__get__") (some (some (.builtin "getset_descriptor.__get__")))) &&
    ((decide (PySem.W.takesIn K (.builtin "object.__class__") = some true) && decide (PySem.W.mroIn K (ga K x) (.type "object") = some true)) && decide (PySem.W.kitOne K (.ref (ga K x)) (.ref (ga K y)) = some true))
theorem isS_ok {x y : PySem.Str} {K : PySem.W.Frag} (h : isSB x y K = true) : IsS K (ga K x) (ga K y) := by
  obtain ⟨h12, h⟩ := ba h
  obtain ⟨h1, h2⟩ := ba h12
  obtain ⟨h34, h5⟩ := ba h
  obtain ⟨h3, h4⟩ := ba h34
  exact ⟨eqO_ok h1, eqO_ok h2, of_decide_eq_true h3, of_decide_eq_true h4, of_decide_eq_true h5⟩
end Q

set_option maxHeartbeats 1000000
namespace Q
open PySem PySem.Spec PyProof.Rows L2 Ca
/-! ### isinstance of a book, both ways -/
structure IsB (K : PySem.W.Frag) (C D : Addr) (t : Bool) : Prop where
  a : PySem.W.findIn K (.ref C) "__class__" = some (some (.builtin "object.__class__"))
  n : PySem.W.specialIn K (.builtin "object.__class__") "__get__" = some (some (.builtin "getset_descriptor.__get__"))
  k : PySem.W.takesIn K (.builtin "object.__class__") = some true
  m : PySem.W.mroIn K C (.type "object") = some true
  kit : PySem.W.kitOne K (.ref C) (.ref D) = some t
theorem e_isiB {K : PySem.W.Frag} {σ : L2.St} {F : Hp} {i : Nat} {te : TE} {C D b : Addr} {t : Bool} (cl : Cls K C) (is : IsB K C D t) (h : σ[i]? = some (some (.ref b))) (hi : ∃ dx fs, F b = some (.ins C dx fs)) (hc : EvP te σ F fun _ v => v = .ref D) :
    EvD (tCB (rIsi K) (tCons (tVar i) (tCons te tNil))) σ F (.bool t) := fun S H1 f s Q q => ⟨_, h, hc S H1 f s _ fun w H3 s3 ew => by
  subst ew
  obtain ⟨dx, fs, hb⟩ := hi
  exact ⟨_, _, _, _, t, rfl, .own D, .base (.ins (s3 _ _ (offS_same _ _ (s _ _ hb))) cl is.a is.n is.k is.m), is.kit, q _ H3 s3 (.bl _)⟩⟩
def isBB (x y : PySem.Str) (t : Bool) (K : PySem.W.Frag) : Bool :=
  (He.eqO (PySem.W.findIn K (.ref (He.ga K x)) "__class__") (some (some (.builtin "object.__class__"))) && He.eqO (PySem.W.specialIn K (.builtin "object.__class__") "__get__") (some (some (.builtin "getset_descriptor.__get__")))) &&
    ((decide (PySem.W.takesIn K (.builtin "object.__class__") = some true) && decide (PySem.W.mroIn K (He.ga K x) (.type "object") = some true)) && decide (PySem.W.kitOne K (.ref (He.ga K x)) (.ref (He.ga K y)) = some t))
theorem isB_ok {x y : PySem.Str} {t : Bool} {K : PySem.W.Frag} (h : isBB x y t K = true) : IsB K (He.ga K x) (He.ga K y) t := by
  obtain ⟨h12, h⟩ := He.ba h
  obtain ⟨h1, h2⟩ := He.ba h12
  obtain ⟨h34, h5⟩ := He.ba h
  obtain ⟨h3, h4⟩ := He.ba h34
  exact ⟨He.eqO_ok h1, He.eqO_ok h2, of_decide_eq_true h3, of_decide_eq_true h4, of_decide_eq_true h5⟩
end Q

set_option maxHeartbeats 0
namespace Q
open PySem PySem.Spec PyProof.Rows L2 Ca
def fs1 : List (PySem.W.Frag → Bool) := [(fun K => (He.Fa.free "isinstance").ok K), (fun K => (He.Fa.free "int").ok K), (fun K => (He.Fa.free "bool").ok K), (fun K => (He.Fa.free "str").ok K), (fun K => (He.Fa.free "tuple").ok K), (fun K => (He.Fa.free "list").ok K), (fun K => (He.Fa.free "len").ok K), (fun K => (He.Fa.free "all").ok K), (fun K => (He.Fa.free "sorted").ok K), (fun K => (He.Fa.free "repr").ok K), (fun K => (He.Fa.free "max").ok K), (fun K => (He.Fa.free "min").ok K), (fun K => (He.Fa.free "range").ok K), (fun K => (He.Fa.free "super").ok K), (fun K => (He.Fa.free "sum").ok K), (fun K => (He.Fa.glo "is_number").ok K), (fun K => (He.Fa.glo "is_triple").ok K), (fun K => (He.Fa.glo "is_key").ok K), (fun K => (He.Fa.glo "is_row").ok K), (fun K => (He.Fa.glo "are_rows").ok K)]
def fs2 : List (PySem.W.Frag → Bool) := [(fun K => (He.Fa.glo "text_of_rows").ok K), (fun K => (He.Fa.glo "number_of_word").ok K), (fun K => (He.Fa.glo "row_of_line").ok K), (fun K => (He.Fa.glo "table_within_limits").ok K), (fun K => (He.Fa.glo "KINDS").ok K), (fun K => (He.Fa.glo "NoRows").ok K), (fun K => (He.Fa.glo "Table").ok K), (fun K => He.tupB K "KINDS" [.str "A", .str "B", .str "C"]), (fun K => (K.lookup sysModules).isSome), (fun K => (He.Fa.exc "NoRows").ok K), (fun K => (He.Fa.cls "Table").ok K), (fun K => (He.Fa.noat "Table" "kept").ok K), (fun K => (He.Fa.mkr "Table").ok K), (fun K => (He.Fa.int "MOST_VALUE" 99).ok K), (fun K => (He.Fa.int "MOST_OFTEN" 10000).ok K), (fun K => (He.Fa.int "MOST_ROWS" 12).ok K), (fun K => (He.Fa.int "LONGEST_NUMBER" 5).ok K), (fun K => crB "Table" K), (fun K => cmB "Table" "read" K), (fun K => propB "Table" "rows" K)]
def fs3 : List (PySem.W.Frag → Bool) := [(fun K => (He.Fa.meth "Table" "text").ok K), (fun K => (He.Fa.exc "TooMuch").ok K), (fun K => (He.Fa.glo "TooMuch").ok K), (fun K => slotB "__len__" "Table" K), (fun K => isTB "Table" K), (fun K => (He.Fa.exc "NoTable").ok K), (fun K => (He.Fa.glo "NoTable").ok K), (fun K => (He.Fa.exc "NoKey").ok K), (fun K => (He.Fa.glo "NoKey").ok K), (fun K => (He.Fa.exc "NoNumber").ok K), (fun K => (He.Fa.glo "NoNumber").ok K), (fun K => (He.Fa.glo "check_table").ok K), (fun K => (He.Fa.glo "check_put").ok K), (fun K => (He.Fa.glo "table_with").ok K), (fun K => ixB "Table" K), (fun K => (He.Fa.glo "counts_in").ok K), (fun K => (He.Fa.cls "Book").ok K), (fun K => (He.Fa.noat "Book" "held").ok K), (fun K => (He.Fa.noat "Book" "watched").ok K), (fun K => (He.Fa.noat "Book" "past").ok K)]
def fs4 : List (PySem.W.Frag → Bool) := [(fun K => (He.Fa.noat "Book" "cap").ok K), (fun K => (He.Fa.glo "Book").ok K), (fun K => propB "Book" "table" K), (fun K => propB "Book" "questions" K), (fun K => propB "Book" "changes" K), (fun K => propB "Book" "counts" K), (fun K => slotB "__len__" "Book" K), (fun K => slotB "__repr__" "Book" K), (fun K => (He.Fa.cls "Mirrored").ok K), (fun K => (He.Fa.noat "Mirrored" "held").ok K), (fun K => (He.Fa.noat "Mirrored" "watched").ok K), (fun K => (He.Fa.noat "Mirrored" "past").ok K), (fun K => (He.Fa.noat "Mirrored" "cap").ok K), (fun K => (He.Fa.glo "Mirrored").ok K), (fun K => propB "Mirrored" "table" K), (fun K => propB "Mirrored" "questions" K), (fun K => propB "Mirrored" "changes" K), (fun K => propB "Mirrored" "counts" K), (fun K => slotB "__len__" "Mirrored" K), (fun K => slotB "__repr__" "Mirrored" K)]
def fs5 : List (PySem.W.Frag → Bool) := [(fun K => (He.Fa.cls "Capped").ok K), (fun K => (He.Fa.noat "Capped" "held").ok K), (fun K => (He.Fa.noat "Capped" "watched").ok K), (fun K => (He.Fa.noat "Capped" "past").ok K), (fun K => (He.Fa.noat "Capped" "cap").ok K), (fun K => (He.Fa.glo "Capped").ok K), (fun K => propB "Capped" "table" K), (fun K => propB "Capped" "questions" K), (fun K => propB "Capped" "changes" K), (fun K => propB "Capped" "counts" K), (fun K => slotB "__len__" "Capped" K), (fun K => slotB "__repr__" "Capped" K), (fun K => (He.Fa.cls "CappedMirror").ok K), (fun K => (He.Fa.noat "CappedMirror" "held").ok K), (fun K => (He.Fa.noat "CappedMirror" "watched").ok K), (fun K => (He.Fa.noat "CappedMirror" "past").ok K), (fun K => (He.Fa.noat "CappedMirror" "cap").ok K), (fun K => (He.Fa.glo "CappedMirror").ok K), (fun K => propB "CappedMirror" "table" K), (fun K => propB "CappedMirror" "questions" K)]
def fs6 : List (PySem.W.Frag → Bool) := [(fun K => propB "CappedMirror" "changes" K), (fun K => propB "CappedMirror" "counts" K), (fun K => slotB "__len__" "CappedMirror" K), (fun K => slotB "__repr__" "CappedMirror" K), (fun K => propB "Capped" "most" K), (fun K => propB "CappedMirror" "most" K), (fun K => (He.Fa.exc "TooOften").ok K), (fun K => (He.Fa.glo "TooOften").ok K), (fun K => (He.Fa.glo "check_most").ok K), (fun K => (He.Fa.glo "check_often").ok K), (fun K => (He.Fa.glo "check_rows_often").ok K), (fun K => (He.Fa.exc "NotMirrored").ok K), (fun K => (He.Fa.glo "NotMirrored").ok K), (fun K => (He.Fa.exc "NothingDone").ok K), (fun K => (He.Fa.glo "NothingDone").ok K), (fun K => (He.Fa.glo "check_mirrored").ok K), (fun K => supKB "Mirrored" "Mirrored" K), (fun K => supKB "Capped" "Capped" K), (fun K => supKB "CappedMirror" "CappedMirror" K), (fun K => supKB "CappedMirror" "Capped" K)]
def fs7 : List (PySem.W.Frag → Bool) := [(fun K => supKB "CappedMirror" "Mirrored" K), (fun K => supMB "Mirrored" "Mirrored" "Book" "__init__" K), (fun K => supMB "Capped" "Capped" "Book" "__init__" K), (fun K => supMB "CappedMirror" "Mirrored" "Book" "__init__" K), (fun K => supMB "CappedMirror" "Capped" "Mirrored" "__init__" K), (fun K => supMB "CappedMirror" "CappedMirror" "Capped" "__init__" K), (fun K => (He.Fa.mkr "Book").ok K), (fun K => (He.Fa.mkr "Mirrored").ok K), (fun K => (He.Fa.mkr "Capped").ok K), (fun K => (He.Fa.mkr "CappedMirror").ok K), (fun K => (He.Fa.mkr "Trying").ok K), (fun K => (He.Fa.cls "Trying").ok K), (fun K => (He.Fa.noat "Trying" "book").ok K), (fun K => (He.Fa.glo "Trying").ok K), (fun K => supMB "Mirrored" "Mirrored" "Book" "trying" K), (fun K => supMB "Capped" "Capped" "Book" "trying" K), (fun K => supMB "CappedMirror" "Mirrored" "Book" "trying" K), (fun K => supMB "CappedMirror" "Capped" "Mirrored" "trying" K), (fun K => supMB "CappedMirror" "CappedMirror" "Capped" "trying" K), (fun K => supMB "Mirrored" "Mirrored" "Book" "undo" K)]
def fs8 : List (PySem.W.Frag → Bool) := [(fun K => supMB "Capped" "Capped" "Book" "undo" K), (fun K => supMB "CappedMirror" "Mirrored" "Book" "undo" K), (fun K => supMB "CappedMirror" "Capped" "Mirrored" "undo" K), (fun K => supMB "CappedMirror" "CappedMirror" "Capped" "undo" K), (fun K => (He.Fa.glo "_law_cell").ok K), (fun K => (He.Fa.glo "_law_source").ok K), (fun K => (He.Fa.glo "_law_draw").ok K), (fun K => (He.Fa.glo "_law_choose").ok K), (fun K => (He.Fa.glo "_law_is_equal").ok K), (fun K => (He.Fa.glo "_law_text").ok K), (fun K => (He.Fa.glo "_law_table").ok K), (fun K => (He.Fa.glo "_law_key").ok K), (fun K => (He.Fa.glo "_law_put").ok K), (fun K => (He.Fa.glo "_law_put_both").ok K), (fun K => (He.Fa.glo "_law_listed").ok K), (fun K => (He.Fa.glo "law").ok K), (fun K => (He.Fa.glo "_law_due").ok K), (fun K => (He.Fa.glo "_law_said").ok K), (fun K => (He.Fa.glo "_law_seen").ok K), (fun K => (He.Fa.glo "NoQuestion").ok K)]
def fs9 : List (PySem.W.Frag → Bool) := [(fun K => (He.Fa.glo "_law_made").ok K), (fun K => (He.Fa.glo "_law_kinds").ok K), (fun K => (He.Fa.glo "_law_is_new").ok K), (fun K => (He.Fa.glo "_law_are_refused").ok K), (fun K => tabNB "_law_is_new" "_law_are_refused" K), (fun K => isBB "Book" "Mirrored" false K), (fun K => isBB "Book" "Capped" false K), (fun K => isBB "Book" "CappedMirror" false K), (fun K => isBB "Book" "Book" true K), (fun K => (He.Fa.meth "Book" "trying").ok K), (fun K => (He.Fa.meth "Book" "undo").ok K), (fun K => exB "NothingDone" "NothingDone" true K), (fun K => exB "NothingDone" "NotMirrored" false K), (fun K => exB "NothingDone" "TooOften" false K), (fun K => exB "NothingDone" "TooMuch" false K), (fun K => exB "NothingDone" "NoQuestion" false K), (fun K => exB "NothingDone" "NoTable" false K), (fun K => exB "NothingDone" "NoNumber" false K), (fun K => exB "NothingDone" "NoKey" false K), (fun K => isBB "Mirrored" "Mirrored" true K)]
def fs10 : List (PySem.W.Frag → Bool) := [(fun K => isBB "Mirrored" "Capped" false K), (fun K => isBB "Mirrored" "CappedMirror" false K), (fun K => isBB "Mirrored" "Book" true K), (fun K => (He.Fa.meth "Mirrored" "trying").ok K), (fun K => (He.Fa.meth "Mirrored" "undo").ok K), (fun K => isBB "Capped" "Mirrored" false K), (fun K => isBB "Capped" "Capped" true K), (fun K => isBB "Capped" "CappedMirror" false K), (fun K => isBB "Capped" "Book" true K), (fun K => (He.Fa.meth "Capped" "trying").ok K), (fun K => (He.Fa.meth "Capped" "undo").ok K), (fun K => isBB "CappedMirror" "Mirrored" true K), (fun K => isBB "CappedMirror" "Capped" true K), (fun K => isBB "CappedMirror" "CappedMirror" true K), (fun K => isBB "CappedMirror" "Book" true K), (fun K => (He.Fa.meth "CappedMirror" "trying").ok K), (fun K => (He.Fa.meth "CappedMirror" "undo").ok K), (fun K => exB "NoTable" "NoTable" true K), (fun K => exB "NoTable" "NoNumber" false K), (fun K => exB "NoTable" "NoKey" false K)]
def fs : List (PySem.W.Frag → Bool) := fs1 ++ fs2 ++ fs3 ++ fs4 ++ fs5 ++ fs6 ++ fs7 ++ fs8 ++ fs9 ++ fs10
def df_num : DfX := ⟨fun K => He.ga K "is_number", "is_number", "is_number", top 4⟩
def df_tri : DfX := ⟨fun K => He.ga K "is_triple", "is_triple", "is_triple", top 5⟩
def df_key : DfX := ⟨fun K => He.ga K "is_key", "is_key", "is_key", top 25⟩
def df_row : DfX := ⟨fun K => He.ga K "is_row", "is_row", "is_row", top 26⟩
def df_arr : DfX := ⟨fun K => He.ga K "are_rows", "are_rows", "are_rows", top 27⟩
def df_txr : DfX := ⟨fun K => He.ga K "text_of_rows", "text_of_rows", "text_of_rows", top 28⟩
def df_now : DfX := ⟨fun K => He.ga K "number_of_word", "number_of_word", "number_of_word", top 6⟩
def df_rol : DfX := ⟨fun K => He.ga K "row_of_line", "row_of_line", "row_of_line", top 29⟩
def df_twl : DfX := ⟨fun K => He.ga K "table_within_limits", "table_within_limits", "table_within_limits", top 36⟩
def df_tinit : DfX := ⟨fun K => He.ma K (He.ga K "Table") "__init__", "__init__", "Table.__init__", inClass (top 34) 0⟩
def df_tread : DfX := ⟨fun K => cmG K "Table" "read", "read", "Table.read", inClass (top 34) 12⟩
def df_trows : DfX := ⟨fun K => propG K (He.ma K (He.ga K "Table") "rows"), "rows", "Table.rows", inClass (top 34) 1⟩
def df_ttext : DfX := ⟨fun K => He.ma K (He.ga K "Table") "text", "text", "Table.text", inClass (top 34) 11⟩
def df_tlen : DfX := ⟨fun K => He.ma K (He.ga K "Table") "__len__", "__len__", "Table.__len__", inClass (top 34) 2⟩
def df_ck : DfX := ⟨fun K => He.ga K "check_table", "check_table", "check_table", top 35⟩
def df_ckp : DfX := ⟨fun K => He.ga K "check_put", "check_put", "check_put", top 42⟩
def df_tw : DfX := ⟨fun K => He.ga K "table_with", "table_with", "table_with", top 48⟩
def df_tget : DfX := ⟨fun K => He.ma K (He.ga K "Table") "__getitem__", "__getitem__", "Table.__getitem__", inClass (top 34) 3⟩
def df_cin : DfX := ⟨fun K => He.ga K "counts_in", "counts_in", "counts_in", top 49⟩
def df_mostC : DfX := ⟨fun K => propG K (He.ma K (He.ga K "Capped") "most"), "most", "Capped.most", inClass (top 53) 1⟩
def df_mostX : DfX := ⟨fun K => propG K (He.ma K (He.ga K "CappedMirror") "most"), "most", "CappedMirror.most", inClass (top 54) 1⟩
def df_tabB : DfX := ⟨fun K => propG K (He.ma K (He.ga K "Book") "table"), "table", "Book.table", inClass (top 51) 1⟩
def df_qsB : DfX := ⟨fun K => propG K (He.ma K (He.ga K "Book") "questions"), "questions", "Book.questions", inClass (top 51) 8⟩
def df_chB : DfX := ⟨fun K => propG K (He.ma K (He.ga K "Book") "changes"), "changes", "Book.changes", inClass (top 51) 10⟩
def df_cntB : DfX := ⟨fun K => propG K (He.ma K (He.ga K "Book") "counts"), "counts", "Book.counts", inClass (top 51) 9⟩
def df_lenB : DfX := ⟨fun K => He.ma K (He.ga K "Book") "__len__", "__len__", "Book.__len__", inClass (top 51) 13⟩
def df_repB : DfX := ⟨fun K => He.ma K (He.ga K "Book") "__repr__", "__repr__", "Book.__repr__", inClass (top 51) 14⟩
def df_tabM : DfX := ⟨fun K => propG K (He.ma K (He.ga K "Mirrored") "table"), "table", "Mirrored.table", inClass (top 52) 1⟩
def df_qsM : DfX := ⟨fun K => propG K (He.ma K (He.ga K "Mirrored") "questions"), "questions", "Mirrored.questions", inClass (top 52) 7⟩
def df_chM : DfX := ⟨fun K => propG K (He.ma K (He.ga K "Mirrored") "changes"), "changes", "Mirrored.changes", inClass (top 52) 9⟩
def df_cntM : DfX := ⟨fun K => propG K (He.ma K (He.ga K "Mirrored") "counts"), "counts", "Mirrored.counts", inClass (top 52) 8⟩
def df_lenM : DfX := ⟨fun K => He.ma K (He.ga K "Mirrored") "__len__", "__len__", "Mirrored.__len__", inClass (top 52) 12⟩
def df_repM : DfX := ⟨fun K => He.ma K (He.ga K "Mirrored") "__repr__", "__repr__", "Mirrored.__repr__", inClass (top 52) 13⟩
def df_tabC : DfX := ⟨fun K => propG K (He.ma K (He.ga K "Capped") "table"), "table", "Capped.table", inClass (top 53) 2⟩
def df_qsC : DfX := ⟨fun K => propG K (He.ma K (He.ga K "Capped") "questions"), "questions", "Capped.questions", inClass (top 53) 8⟩
def df_chC : DfX := ⟨fun K => propG K (He.ma K (He.ga K "Capped") "changes"), "changes", "Capped.changes", inClass (top 53) 10⟩
def df_cntC : DfX := ⟨fun K => propG K (He.ma K (He.ga K "Capped") "counts"), "counts", "Capped.counts", inClass (top 53) 9⟩
def df_lenC : DfX := ⟨fun K => He.ma K (He.ga K "Capped") "__len__", "__len__", "Capped.__len__", inClass (top 53) 13⟩
def df_repC : DfX := ⟨fun K => He.ma K (He.ga K "Capped") "__repr__", "__repr__", "Capped.__repr__", inClass (top 53) 14⟩
def df_tabX : DfX := ⟨fun K => propG K (He.ma K (He.ga K "CappedMirror") "table"), "table", "CappedMirror.table", inClass (top 54) 2⟩
def df_qsX : DfX := ⟨fun K => propG K (He.ma K (He.ga K "CappedMirror") "questions"), "questions", "CappedMirror.questions", inClass (top 54) 8⟩
def df_chX : DfX := ⟨fun K => propG K (He.ma K (He.ga K "CappedMirror") "changes"), "changes", "CappedMirror.changes", inClass (top 54) 10⟩
def df_cntX : DfX := ⟨fun K => propG K (He.ma K (He.ga K "CappedMirror") "counts"), "counts", "CappedMirror.counts", inClass (top 54) 9⟩
def df_lenX : DfX := ⟨fun K => He.ma K (He.ga K "CappedMirror") "__len__", "__len__", "CappedMirror.__len__", inClass (top 54) 13⟩
def df_repX : DfX := ⟨fun K => He.ma K (He.ga K "CappedMirror") "__repr__", "__repr__", "CappedMirror.__repr__", inClass (top 54) 14⟩
def df_binit : DfX := ⟨fun K => He.ma K (He.ga K "Book") "__init__", "__init__", "Book.__init__", inClass (top 51) 0⟩
def df_ckm : DfX := ⟨fun K => He.ga K "check_most", "check_most", "check_most", top 43⟩
def df_cko : DfX := ⟨fun K => He.ga K "check_often", "check_often", "check_often", top 44⟩
def df_ckr : DfX := ⟨fun K => He.ga K "check_rows_often", "check_rows_often", "check_rows_often", top 45⟩
def df_cmi : DfX := ⟨fun K => He.ga K "check_mirrored", "check_mirrored", "check_mirrored", top 46⟩
def df_tyi : DfX := ⟨fun K => He.ma K (He.ga K "Trying") "__init__", "__init__", "Trying.__init__", inClass (top 50) 0⟩
def df_btry : DfX := ⟨fun K => He.ma K (He.ga K "Book") "trying", "trying", "Book.trying", inClass (top 51) 12⟩
def df_bund : DfX := ⟨fun K => He.ma K (He.ga K "Book") "undo", "undo", "Book.undo", inClass (top 51) 11⟩
def df_cell : DfX := ⟨fun K => He.ga K "_law_cell", "_law_cell", "_law_cell", top 56⟩
def df_source : DfX := ⟨fun K => He.ga K "_law_source", "_law_source", "_law_source", top 57⟩
def df_draw : DfX := ⟨fun K => He.ga K "_law_draw", "_law_draw", "_law_draw", top 58⟩
def df_choose : DfX := ⟨fun K => He.ga K "_law_choose", "_law_choose", "_law_choose", top 59⟩
def df_eq : DfX := ⟨fun K => He.ga K "_law_is_equal", "_law_is_equal", "_law_is_equal", top 60⟩
def df_ltx : DfX := ⟨fun K => He.ga K "_law_text", "_law_text", "_law_text", top 61⟩
def df_ltb : DfX := ⟨fun K => He.ga K "_law_table", "_law_table", "_law_table", top 62⟩
def df_lky : DfX := ⟨fun K => He.ga K "_law_key", "_law_key", "_law_key", top 63⟩
def df_lpu : DfX := ⟨fun K => He.ga K "_law_put", "_law_put", "_law_put", top 64⟩
def df_lpb : DfX := ⟨fun K => He.ga K "_law_put_both", "_law_put_both", "_law_put_both", top 65⟩
def df_lls : DfX := ⟨fun K => He.ga K "_law_listed", "_law_listed", "_law_listed", top 66⟩
def df_law : DfX := ⟨fun K => He.ga K "law", "law", "law", top 75⟩
def df_ldu : DfX := ⟨fun K => He.ga K "_law_due", "_law_due", "_law_due", top 71⟩
def df_said : DfX := ⟨fun K => He.ga K "_law_said", "_law_said", "_law_said", top 69⟩
def df_lsn : DfX := ⟨fun K => He.ga K "_law_seen", "_law_seen", "_law_seen", top 70⟩
def df_lmd : DfX := ⟨fun K => He.ga K "_law_made", "_law_made", "_law_made", top 68⟩
def df_lkd : DfX := ⟨fun K => He.ga K "_law_kinds", "_law_kinds", "_law_kinds", top 72⟩
def df_lnw : DfX := ⟨fun K => He.ga K "_law_is_new", "_law_is_new", "_law_is_new", top 73⟩
def df_lrr : DfX := ⟨fun K => He.ga K "_law_are_refused", "_law_are_refused", "_law_are_refused", top 74⟩
def fn : List DfX := [df_num, df_tri, df_key, df_row, df_arr, df_txr, df_now, df_rol, df_twl, df_tinit, df_tread, df_trows, df_ttext, df_tlen, df_ck, df_ckp, df_tw, df_tget, df_cin, df_mostC, df_mostX, df_tabB, df_qsB, df_chB, df_cntB, df_lenB, df_repB, df_tabM, df_qsM, df_chM, df_cntM, df_lenM, df_repM, df_tabC, df_qsC, df_chC, df_cntC, df_lenC, df_repC, df_tabX, df_qsX, df_chX, df_cntX, df_lenX, df_repX, df_binit, df_ckm, df_cko, df_ckr, df_cmi, df_tyi, df_btry, df_bund, df_cell, df_source, df_draw, df_choose, df_eq, df_ltx, df_ltb, df_lky, df_lpu, df_lpb, df_lls, df_law, df_ldu, df_said, df_lsn, df_lmd, df_lkd, df_lnw, df_lrr]
def nm1 : List PySem.Str := ["_wall", "KINDS", "LONGEST_NUMBER", "is_number", "is_triple", "number_of_word", "CountError", "NoRows", "NoKey", "NoNumber", "NoText", "NoTable", "NoQuestion", "TooMuch", "TooOften", "NotMirrored", "NothingDone", "MOST_ROWS", "MOST_VALUE", "MOST_OFTEN", "MOST_DIGIT", "DIGIT_BASE", "is_key", "is_row", "are_rows"]
def nm2 : List PySem.Str := ["text_of_rows", "row_of_line", "greatest_value", "summed_rows", "shifted_rows", "paired_rows", "Table", "check_table", "table_within_limits", "agrees", "choices", "count_of", "check_put", "check_most", "check_often", "check_rows_often", "check_mirrored", "mirrored_keys", "table_with", "counts_in", "Trying", "Book", "Mirrored", "Capped", "CappedMirror"]
def nm3 : List PySem.Str := ["_law_cell", "_law_source", "_law_draw", "_law_choose", "_law_is_equal", "_law_text", "_law_table", "_law_key", "_law_put", "_law_put_both", "_law_listed", "_law_count", "_law_made", "_law_said", "_law_seen", "_law_due", "_law_kinds", "_law_is_new", "_law_are_refused"]
def nmL : List PySem.Str := nm1 ++ nm2 ++ nm3
abbrev R : PySem.W.OpenRow := PySem.W.OpenLaw.row PySem.Challenge.rw_countalike_k27_books_made_and_described
def tfZ : List DfX := [df_lnw, df_lrr]
abbrev TbL (K : PySem.W.Frag) : List (Addr × PySem.Str) := [(tb0 K (df_lnw.at_ K), lamQ "_law_is_new"), (tb0 K (df_lrr.at_ K), lamQ "_law_are_refused")]
def sf_minit : SfX := ⟨fun K => He.ma K (He.ga K "Mirrored") "__init__", "__init__", "Mirrored.__init__", inClass (top 52) 0, fun K => He.ga K "Mirrored", []⟩
def sf_cinit : SfX := ⟨fun K => He.ma K (He.ga K "Capped") "__init__", "__init__", "Capped.__init__", inClass (top 53) 0, fun K => He.ga K "Capped", [.int 9]⟩
def sf_xinit : SfX := ⟨fun K => He.ma K (He.ga K "CappedMirror") "__init__", "__init__", "CappedMirror.__init__", inClass (top 54) 0, fun K => He.ga K "CappedMirror", [.int 9]⟩
def sf_mtry : SfX := ⟨fun K => He.ma K (He.ga K "Mirrored") "trying", "trying", "Mirrored.trying", inClass (top 52) 11, fun K => He.ga K "Mirrored", []⟩
def sf_mund : SfX := ⟨fun K => He.ma K (He.ga K "Mirrored") "undo", "undo", "Mirrored.undo", inClass (top 52) 10, fun K => He.ga K "Mirrored", []⟩
def sf_ctry : SfX := ⟨fun K => He.ma K (He.ga K "Capped") "trying", "trying", "Capped.trying", inClass (top 53) 12, fun K => He.ga K "Capped", []⟩
def sf_cund : SfX := ⟨fun K => He.ma K (He.ga K "Capped") "undo", "undo", "Capped.undo", inClass (top 53) 11, fun K => He.ga K "Capped", []⟩
def sf_xtry : SfX := ⟨fun K => He.ma K (He.ga K "CappedMirror") "trying", "trying", "CappedMirror.trying", inClass (top 54) 12, fun K => He.ga K "CappedMirror", []⟩
def sf_xund : SfX := ⟨fun K => He.ma K (He.ga K "CappedMirror") "undo", "undo", "CappedMirror.undo", inClass (top 54) 11, fun K => He.ga K "CappedMirror", []⟩
def snS : List SfX := [sf_minit, sf_cinit, sf_xinit, sf_mtry, sf_mund, sf_ctry, sf_cund, sf_xtry, sf_xund]
abbrev fileN : PySem.Str := R.prog.main.file
def as0 : List PySem.Addr := [2, 1, 3, 6, 4, 21, 22, 29, 36, 43, 53, 66, 78, 90, 102, 114, 126, 138, 150, 162, 174, 183, 190, 195, 200, 205, 210, 215, 220, 225, 326, 337, 344, 351, 356, 361, 368, 375, 382, 389, 394, 401, 406, 411, 442, 567, 690, 821, 952, 961, 968, 975, 982, 989, 994, 1001, 1008, 1013, 1020, 1027, 1032, 1039, 1046, 1051, 1056, 1063, 1070, 1077, 1084, 0, 20, 28, 35, 42, 52, 65, 77, 89, 101, 113, 125, 137, 149, 161, 173, 182, 189, 194, 199, 204, 209, 214, 219, 224, 325, 336, 343, 350, 355, 360]
def as1 : List PySem.Addr := [367, 374, 381, 388, 393, 400, 405, 410, 441, 566, 689, 820, 951, 960, 967, 974, 981, 988, 993, 1000, 1007, 1012, 1019, 1026, 1031, 1038, 1045, 1050, 1055, 1062, 1069, 1076, 1083, 15, 17, 18, 19, 23, 25, 26, 27, 30, 32, 33, 34, 37, 39, 40, 41, 51, 54, 64, 76, 88, 100, 112, 124, 136, 148, 160, 172, 177, 179, 180, 181, 184, 186, 187, 188, 191, 193, 196, 198, 201, 203, 206, 208, 211, 213, 216, 218, 221, 223, 239, 247, 254, 259, 266, 273, 280, 287, 294, 301, 308, 315, 322, 324, 327, 328, 331]
def as2 : List PySem.Addr := [333, 334, 335, 338, 340, 341, 342, 345, 347, 348, 349, 352, 354, 357, 359, 362, 364, 365, 366, 369, 371, 372, 373, 376, 378, 379, 380, 383, 385, 386, 387, 390, 392, 395, 397, 398, 399, 402, 404, 407, 409, 425, 432, 439, 440, 443, 444, 460, 477, 484, 491, 498, 505, 512, 520, 528, 536, 543, 550, 557, 564, 565, 568, 569, 587, 604, 612, 619, 626, 633, 641, 649, 657, 665, 673, 680, 687, 688, 709, 717, 734, 742, 750, 757, 764, 772, 780, 788, 796, 804, 811, 818, 819, 840, 848, 865, 873, 881, 888, 895]
def as3 : List PySem.Addr := [903, 911, 919, 927, 935, 942, 949, 950, 955, 957, 958, 959, 962, 964, 965, 966, 969, 971, 972, 973, 976, 978, 979, 980, 983, 985, 986, 987, 990, 992, 995, 997, 998, 999, 1002, 1004, 1005, 1006, 1009, 1011, 1014, 1016, 1017, 1018, 1021, 1023, 1024, 1025, 1028, 1030, 1033, 1035, 1036, 1037, 1040, 1042, 1043, 1044, 1047, 1049, 1052, 1054, 1057, 1059, 1060, 1061, 1064, 1066, 1067, 1068, 1071, 1073, 1074, 1075, 1078, 1080, 1081, 1082, 238, 246, 253, 258, 265, 272, 279, 286, 293, 300, 307, 314, 320, 321, 424, 431, 438, 459, 467, 476, 483, 490]
def as4 : List PySem.Addr := [497, 504, 511, 519, 527, 535, 542, 549, 556, 563, 586, 575, 594, 603, 611, 618, 625, 632, 640, 648, 656, 664, 672, 679, 686, 708, 701, 696, 716, 724, 733, 741, 749, 756, 763, 771, 779, 787, 795, 803, 810, 817, 839, 832, 827, 847, 855, 864, 872, 880, 887, 894, 902, 910, 918, 926, 934, 941, 948, 233, 235, 236, 237, 245, 248, 250, 251, 252, 255, 257, 260, 262, 263, 264, 267, 269, 270, 271, 274, 276, 277, 278, 281, 283, 284, 285, 288, 290, 291, 292, 295, 297, 298, 299, 302, 304, 305, 306, 309, 311]
def as5 : List PySem.Addr := [312, 313, 319, 323, 419, 421, 422, 423, 426, 428, 429, 430, 433, 435, 436, 437, 454, 456, 457, 458, 466, 475, 478, 480, 481, 482, 485, 487, 488, 489, 492, 494, 495, 496, 499, 501, 502, 503, 506, 508, 509, 510, 518, 526, 534, 537, 539, 540, 541, 544, 546, 547, 548, 551, 553, 554, 555, 558, 560, 561, 562, 581, 583, 584, 585, 593, 602, 606, 608, 609, 610, 613, 615, 616, 617, 620, 622, 623, 624, 627, 629, 630, 631, 639, 647, 655, 659, 661, 662, 663, 667, 669, 670, 671, 674, 676, 677, 678, 681, 683]
def as6 : List PySem.Addr := [684, 685, 703, 705, 706, 707, 715, 723, 732, 736, 738, 739, 740, 744, 746, 747, 748, 751, 753, 754, 755, 758, 760, 761, 762, 770, 778, 786, 790, 792, 793, 794, 798, 800, 801, 802, 805, 807, 808, 809, 812, 814, 815, 816, 834, 836, 837, 838, 846, 854, 863, 867, 869, 870, 871, 875, 877, 878, 879, 882, 884, 885, 886, 889, 891, 892, 893, 901, 909, 917, 921, 923, 924, 925, 929, 931, 932, 933, 936, 938, 939, 940, 943, 945, 946, 947, 240, 242, 243, 244, 316, 318, 461, 463, 464, 465, 470, 472, 473, 474]
def as7 : List PySem.Addr := [513, 515, 516, 517, 521, 523, 524, 525, 529, 531, 532, 533, 588, 590, 591, 592, 597, 599, 600, 601, 634, 636, 637, 638, 642, 644, 645, 646, 650, 652, 653, 654, 710, 712, 713, 714, 718, 720, 721, 722, 727, 729, 730, 731, 765, 767, 768, 769, 773, 775, 776, 777, 781, 783, 784, 785, 841, 843, 844, 845, 849, 851, 852, 853, 858, 860, 861, 862, 896, 898, 899, 900, 904, 906, 907, 908, 912, 914, 915, 916]
def asZ : List PySem.Addr := as0 ++ as1 ++ as2 ++ as3 ++ as4 ++ as5 ++ as6 ++ as7
noncomputable abbrev hk : PySem.W.Hook := hookA asZ fs fn tfZ fileN snS
noncomputable def ob (s : PySem.W.SharedT) : AlS := seeA asZ fs fn tfZ fileN snS (HandSHeadRun.getT s)
theorem ob_eq (s : PySem.W.SharedT) : ob s = hk.obs s.abs := seeA_eq (HandSHeadRun.getT_eq s)
end Q

set_option maxHeartbeats 0
namespace Q
open PySem PySem.Spec PyProof.Rows L2 Ca
end Q
namespace Ca
open PySem PySem.Spec PyProof.Rows L2 LamX He
/-! ### a run looked at piece by piece: the kernel forgets between the pieces -/
theorem run_join {σ α β : Type} {o : Option σ} {f : σ → α} {g : σ → β} {a : α} {b : β} (h1 : o.map f = some a) (h2 : o.map g = some b) : o.map (fun s => (f s, g s)) = some (a, b) := by
  cases o with
  | none => cases h1
  | some s =>
    cases h1
    cases h2
    rfl
theorem run_imp {σ α β : Type} {o : Option σ} {f : σ → α} {g : σ → β} {a : α} {b : β} (h1 : o.map f = some a) (h : ∀ s, f s = a → g s = b) : o.map g = some b := by
  cases o with
  | none => cases h1
  | some s => exact congrArg some (h s (Option.some.inj h1))
theorem seeX_join {fA fB : List (PySem.W.Frag → Bool)} {nA nB : List DfX} {K : PySem.W.Frag} (h1 : seeX fA nA K = dueX nA) (h2 : seeX fB nB K = dueX nB) : seeX (fA ++ fB) (nA ++ nB) K = dueX (nA ++ nB) := by
  obtain ⟨a1, a2⟩ := Prod.mk.inj h1
  obtain ⟨b1, b2⟩ := Prod.mk.inj h2
  obtain ⟨a3, a4⟩ := Bool.and_eq_true_iff.mp a1
  obtain ⟨b3, b4⟩ := Bool.and_eq_true_iff.mp b1
  refine Prod.ext ?_ ?_
  · show (((fA ++ fB).all fun f => f K) && ((nA ++ nB).all fun d => d.ok K)) = true
    rw [List.all_append, List.all_append, a3, a4, b3, b4]
    rfl
  · show (nA ++ nB).map (fun d => d.see K) = (nA ++ nB).map DfX.due
    rw [List.map_append, List.map_append, a2, b2]
/-- two looks of the same top -/
theorem seeA_join {as : List Addr} {fA fB : List (PySem.W.Frag → Bool)} {nA nB tf : List DfX} {file : PySem.Str} {sn : List SfX} {g : Addr → Option Obj}
    (h1 : seeA as fA nA tf file sn g = ((dueX nA, true), (true, sn.map SfX.due))) (h2 : seeA as fB nB [] file [] g = ((dueX nB, true), (true, []))) : seeA as (fA ++ fB) (nA ++ nB) tf file sn g = ((dueX (nA ++ nB), true), (true, sn.map SfX.due)) := by
  unfold seeA at h1 h2 ⊢
  rw [frK_eq] at h1 h2 ⊢
  obtain ⟨a1, a2⟩ := Prod.mk.inj h1
  obtain ⟨b1, b2⟩ := Prod.mk.inj h2
  obtain ⟨a3, a4⟩ := Prod.mk.inj a1
  obtain ⟨b3, b4⟩ := Prod.mk.inj b1
  exact Prod.ext (Prod.ext (seeX_join a3 b3) a4) a2
/-- the run's equation out of its pieces -/
theorem run_all {σ α β γ : Type} {o : Option σ} {f1 : σ → α} {f2 : σ → β} {ob : σ → γ} {a : α} {b : β} {c : γ} (h1 : o.map (fun s => (f1 s, f2 s)) = some (a, b)) (h2 : o.map ob = some c) : o.map (fun s => (f1 s, f2 s, ob s)) = some (a, b, c) := by
  cases o with
  | none => cases h1
  | some s =>
    cases h2
    cases h1
    rfl
end Ca
namespace Q
open PySem PySem.Spec PyProof.Rows L2 Ca PySem.W PySem.Calls
theorem run_looks (w : World) (os : OsState) : (HandSHeadRun.endF (HandSHeadRun.stepQ (HandSHeadRun.denQ HandSHeadRun.tabQ) R.prog w) 30000 R.prog w os).map (fun s => (HandSHeadRun.looksF R.prog (boot_heap w.params) s.abs, HandSHeadRun.seenQ (view R.prog [75]) nmL (importedModules R.prog.main.body) (fun s => xlAt (view R.prog [75]) [] s && recOk R.toRowW.records s) s.abs)) = some (true, openGood (view R.prog [75]) nmL) := by
  kernel_rfl
def fq0 : List (PySem.W.Frag → Bool) := fs1 ++ fs2 ++ fs3 ++ fs4 ++ fs5
def nq0 : List DfX := [df_num, df_tri, df_key, df_row, df_arr, df_txr, df_now, df_rol, df_twl, df_tinit, df_tread, df_trows, df_ttext, df_tlen, df_ck, df_ckp, df_tw, df_tget, df_cin, df_mostC, df_mostX, df_tabB, df_qsB, df_chB, df_cntB, df_lenB, df_repB, df_tabM, df_qsM, df_chM, df_cntM, df_lenM, df_repM, df_tabC, df_qsC, df_chC]
theorem run_f0 (w : World) (os : OsState) : (HandSHeadRun.endF (HandSHeadRun.stepQ (HandSHeadRun.denQ HandSHeadRun.tabQ) R.prog w) 30000 R.prog w os).map (fun s => seeA asZ fq0 nq0 tfZ fileN snS (HandSHeadRun.getT s)) = some ((dueX nq0, true), (true, snS.map SfX.due)) := by
  kernel_rfl
def fq1 : List (PySem.W.Frag → Bool) := fs6 ++ fs7 ++ fs8 ++ fs9 ++ fs10
def nq1 : List DfX := [df_cntC, df_lenC, df_repC, df_tabX, df_qsX, df_chX, df_cntX, df_lenX, df_repX, df_binit, df_ckm, df_cko, df_ckr, df_cmi, df_tyi, df_btry, df_bund, df_cell, df_source, df_draw, df_choose, df_eq, df_ltx, df_ltb, df_lky, df_lpu, df_lpb, df_lls, df_law, df_ldu, df_said, df_lsn, df_lmd, df_lkd, df_lnw, df_lrr]
theorem run_f1 (w : World) (os : OsState) : (HandSHeadRun.endF (HandSHeadRun.stepQ (HandSHeadRun.denQ HandSHeadRun.tabQ) R.prog w) 30000 R.prog w os).map (fun s => seeA asZ fq1 nq1 [] fileN [] (HandSHeadRun.getT s)) = some ((dueX nq1, true), (true, [])) := by
  kernel_rfl
theorem fs_cut : fs = fq0 ++ fq1 := by
  simp only [fs, fq0, fq1, List.append_assoc]
theorem fn_cut : fn = nq0 ++ nq1 := rfl
theorem run_facts (w : World) (os : OsState) : (HandSHeadRun.endF (HandSHeadRun.stepQ (HandSHeadRun.denQ HandSHeadRun.tabQ) R.prog w) 30000 R.prog w os).map ob = some (hk.val w) := by
  have e : ∀ s, ob s = seeA asZ fs fn tfZ fileN snS (HandSHeadRun.getT s) := fun _ => rfl
  have v : hk.val w = ((dueX fn, true), (true, snS.map SfX.due)) := rfl
  rw [v, fn_cut, funext e, fs_cut, fn_cut]
  have h := run_f0 w os
  replace h := run_imp (run_join h (run_f1 w os)) fun s z => seeA_join (congrArg Prod.fst z) (congrArg Prod.snd z)
  exact h
theorem run (w : World) : HandSHeadRun.RunEq R (view R.prog [75]) hk ob 30000 nmL w := fun os => run_all (run_looks w os) (run_facts w os)
end Q

set_option maxHeartbeats 1000000
namespace Q
open PySem PySem.Spec PyProof.Rows L2 Ca
/-! ### check_most, check_often, check_rows_often -/
abbrev s_ckm : Stmt := top 43
abbrev n_ckm : List PySem.Str := ["thing"]
theorem sc_ckm : FnScope n_ckm ["thing"] (defScope s_ckm) := ⟨rfl, rfl, rfl, by decide +kernel, rfl, by decide +kernel, by decide +kernel⟩
abbrev s_cko : Stmt := top 44
abbrev n_cko : List PySem.Str := ["often", "most"]
theorem sc_cko : FnScope n_cko ["often", "most"] (defScope s_cko) := ⟨rfl, rfl, rfl, by decide +kernel, rfl, by decide +kernel, by decide +kernel⟩
abbrev s_ckr : Stmt := top 45
abbrev n_ckr : List PySem.Str := ["table", "most", "row"]
theorem sc_ckr : FnScope n_ckr ["table", "most"] (defScope s_ckr) := ⟨rfl, rfl, rfl, by decide +kernel, rfl, by decide +kernel, by decide +kernel⟩
def spCkm (NN : Addr) : Sp := fun vs H Q E => ∃ (S : Addr → Bool) (v : V) (d : PyData), vs = [v] ∧ Fr S H ∧ Rp (offS S H) v d ∧ (isNum d 1 10000 = false → ∀ H', Same H H' → E (.ref NN) none H') ∧ (isNum d 1 10000 = true → ∀ H', Same H H' → Q .non H')
def spCko (NO : Addr) : Sp := fun vs H Q E => ∃ (S : Addr → Bool) (n m : Int), vs = [.int n, .int m] ∧ Fr S H ∧ 0 ≤ m ∧ m ≤ 10000 ∧ (m < n → ∀ H', Same H H' → E (.ref NO) none H') ∧ (n ≤ m → ∀ H', Same H H' → Q .non H')
def spCkr (CT NO : Addr) : Sp := fun vs H Q E => ∃ (S : Addr → Bool) (v : V) (ks : List Ro) (m : Int), vs = [v, .int m] ∧ Fr S H ∧ TV CT ks (offS S H) v ∧ GoodT ks ∧ 0 ≤ m ∧ m ≤ 10000 ∧ ((∃ a ∈ ks, m < a.n) → ∀ H', Same H H' → E (.ref NO) none H') ∧ ((∀ a ∈ ks, a.n ≤ m) → ∀ H', Same H H' → Q .non H')
section
variable {P : Program} {w : World} {K : PySem.W.Frag} {mg : PySem.Str → Option Value} {base : Heap}
theorem ok_ckm {f NN : Addr} {fd : FuncData} (F : FnP K "check_most" s_ckm f fd) (XN : XT K mg "NoNumber" NN) (gO : ∃ t, mg "MOST_OFTEN" = some (.int 10000 t)) (D2 : Fd P w K mg base "is_number" 1 ["thing", "least", "most"] (spR RNum)) :
    FnOk P w K mg base (L2.CX P w) 2 f fd ["thing"] (spCkm NN) := by
  obtain ⟨f2, fd2, G2, b2, k2, m2⟩ := D2.ex
  obtain ⟨tO, gO⟩ := gO
  refine F.ok sc_ckm (fun vs H Q E h => ?_) (fun cdv A outer s H vs Q E hr h => ?_)
  · obtain ⟨S, v, d, rfl, _⟩ := h
    rfl
  obtain ⟨S, v, d, rfl, fr, r, kE, kQ⟩ := h
  refine ⟨_, (pss_one (ps_if (pt_not (pt_val (pe_call G2 (hr.mono (by decide)) rfl m2 k2 b2 .nil pass0 (pa_cons (pv 0) (pa_cons pe_int (pa_cons (pe_glob (v := .int 10000) rfl gO ⟨_, rfl⟩) pa_nil)))))) (pss_one (ps_raise rfl (takes_of rfl rfl rfl rfl) (pmk_own PySem.F.excBase_ValueError XN.xN XN.gN XN.kN (raises_own XN.bN XN.tN) rfl))) pss_nil)), ?_⟩
  refine go_if (b := !isNum d 1 10000) fr (b_not (b_val (e_call (a_cons (e_var rfl r) (a_cons e_int (a_cons e_int a_nil))) (show RNum [d, .int 1, .int 10000] (.bool (isNum d 1 10000)) from ⟨_, _, _, rfl, rfl⟩)))) (fun z H1 s1 f1 => ?_) fun z H1 s1 fr1 => ?_
  · exact kE (by simpa using z) H1 s1
  · exact kQ (by simpa using z) H1 s1
theorem ok_cko {f NO : Addr} {fd : FuncData} (F : FnP K "check_often" s_cko f fd) (XO : XT K mg "TooOften" NO) : FnOk P w K mg base (L2.CX P w) 1 f fd ["often", "most"] (spCko NO) := by
  refine F.ok sc_cko (fun vs H Q E h => ?_) (fun cdv A outer s H vs Q E hr h => ?_)
  · obtain ⟨S, n, m, rfl, _⟩ := h
    rfl
  obtain ⟨S, n, m, rfl, fr, m0, m9, kE, kQ⟩ := h
  refine ⟨_, pss_one (ps_if (pt_cmpR op_gt (pv 0) (pv 1) (nomark _)) (pss_one (ps_raise rfl (takes_of rfl rfl rfl rfl) (SkE.pmk_own1 PySem.F.excBase_ValueError XO.xN XO.gN XO.kN (raises_own XO.bN XO.tN) rfl (pe_joinedQ (.cons pe_str (.cons (pe_fmt (pv 1)) (.cons pe_str .nil))))))) pss_nil), ?_⟩
  refine go_if (b := decide (m < n)) fr (b_test (e_cmp (g := fun i j => decide (j < i)) (e_var rfl (.int _)) (e_var rfl (.int _)))) (fun z H1 s1 f1 => ?_) fun z H1 s1 fr1 => ?_
  · have nl := num5 m0 m9
    have l1 : (PySem.Str.ofString "this book has rows at most ").length = 27 := by decide +kernel
    have l2 : (PySem.Str.ofString " times").length = 6 := by decide +kernel
    refine e_joined (ys := [PySem.Str.ofString "this book has rows at most ", PySem.Str.ofString (toString m), PySem.Str.ofString " times"]) (.cons e_str (.cons (e_fmtI (e_var rfl (.int _)) (log99 m0 m9)) (.cons e_str .nil))) ?_ S H1 f1 (Same.refl _) _ fun v H2 s2 _ => kE (of_decide_eq_true z) H2 (s1.trans s2)
    unfold lens
    simp only [List.map_cons, List.map_nil, List.sum_cons, List.sum_nil]
    omega
  · exact kQ (by have := of_decide_eq_false z; omega) H1 s1
theorem ok_ckr {f CT N NO fO pR fA : Addr} {fd fdO fdA : FuncData} (F : FnP K "check_rows_often" s_ckr f fd) (TT2 : TT K mg CT N) (GR : FnOk P w K mg base CX0 1 fA fdA ["self"] (spQ (ITRows CT))) (bR : Binds K fdA ["self"] []) (hR : PropOf K CT "rows" pR fA)
    (GO : FnOk P w K mg base (L2.CX P w) 1 fO fdO ["often", "most"] (spCko NO)) (bO : Binds K fdO ["often", "most"] []) (kO : PySem.W.keepIn K (.ref fO) = true) (gCO : mg "check_often" = some (.ref fO)) : FnOk P w K mg base (L2.CX P w) 3 f fd ["table", "most"] (spCkr CT NO) := by
  refine F.ok sc_ckr (fun vs H Q E h => ?_) (fun cdv A outer s H vs Q E hr h => ?_)
  · obtain ⟨S, v, ks, m, rfl, _⟩ := h
    rfl
  obtain ⟨S, v, ks, m, rfl, fr, tv, gt, m0, m9, kE, kQ⟩ := h
  have pL := passes_call (X := cxOf (L2.CX P w) P w K mg base n_ckr "check_rows_often" (defScope s_ckr) f cdv A outer s H E) (takes_of rfl rfl rfl rfl) (E := E) (fun _ _ _ _ h => h)
  refine ⟨_, (pss_one (ps_for (passes_of rfl) rfl (pi_tupQ (K := K) rfl (pe_prop (pv 0) TT2.cl hR GR (hr.mono (by decide)) bR .nil pass0 rfl)) (pg_name (i := 2) sc_ckr.nd rfl (.inl rfl)) (pss_one (ps_expr (pe_call GO (hr.mono (by decide)) rfl gCO kO bO .nil pL (pa_cons (pe_ix (ix_tup : IxR _ (rIxT K)) (pv 2) pe_int (fun _ _ => rfl)) (pa_cons (pv 1) pa_nil))))))), ?_⟩
  refine go_forT (S := S) (enc := roD) (as := ks) fr (e_prop (e_varP (P := TV CT ks) rfl fun _ sm => tv.mono sm) tv_rows) fun H1 s1 fr1 => ⟨fun i σ H' => ∃ x2, σ = [some v, some (.int m), x2] ∧ Same H1 H' ∧ ∀ a ∈ ks.take i, a.n ≤ m, ?_, ?_, ?_, ?_⟩
  · exact ⟨none, rfl, Same.refl _, fun a ha => by cases ha⟩
  · rintro i σ H2 ⟨x2, rfl, sm, le⟩
    exact ⟨fr1.mono sm, offS_mono sm⟩
  · rintro i a x σ H2 ha rx ⟨x2, rfl, sm, le⟩
    have fr2 := fr1.mono sm
    obtain ⟨g, _, _⟩ := are_good gt.a
    have ga := g a (List.mem_of_getElem? ha)
    obtain ⟨p, ys, rfl, hp, ry⟩ := rp_tup rx
    obtain ⟨w1, w2, w3, w4, rfl, _, _, _, r4⟩ := rpa4 ry
    cases r4
    refine ⟨_, rfl, p, _, 3, _, rfl, rfl, .inl (.inl hp), rfl, _, rfl, S, a.n, m, rfl, fr2, m0, m9, fun l H3 s3 => kE ⟨a, List.mem_of_getElem? ha, l⟩ H3 (s1.trans (sm.trans s3)), fun l H3 s3 => ⟨_, rfl, sm.trans s3, fun b hb => ?_⟩⟩
    rw [List.take_add_one, List.mem_append] at hb
    rcases hb with hb | hb
    · exact le b hb
    · rw [ha] at hb
      rw [List.mem_singleton.mp (show b ∈ [a] from hb)]
      exact l
  · rintro σ H2 ⟨x2, rfl, sm, le⟩
    rw [List.take_length] at le
    exact kQ le H2 (s1.trans sm)
end
end Q

set_option maxHeartbeats 1000000
namespace Q
open PySem PySem.Spec PyProof.Rows L2 Ca
/-! ### reading methods of Capped -/
abbrev cC : Stmt := top 53
abbrev s_tabC : Stmt := inClass cC 2
abbrev n_tabC : List PySem.Str := ["self"]
theorem sc_tabC : FnScope n_tabC ["self"] (defScope s_tabC) := ⟨rfl, rfl, rfl, by decide +kernel, rfl, by decide +kernel, by decide +kernel⟩
abbrev s_qsC : Stmt := inClass cC 8
abbrev n_qsC : List PySem.Str := ["self"]
theorem sc_qsC : FnScope n_qsC ["self"] (defScope s_qsC) := ⟨rfl, rfl, rfl, by decide +kernel, rfl, by decide +kernel, by decide +kernel⟩
abbrev s_chC : Stmt := inClass cC 10
abbrev n_chC : List PySem.Str := ["self"]
theorem sc_chC : FnScope n_chC ["self"] (defScope s_chC) := ⟨rfl, rfl, rfl, by decide +kernel, rfl, by decide +kernel, by decide +kernel⟩
abbrev s_cntC : Stmt := inClass cC 9
abbrev n_cntC : List PySem.Str := ["self"]
theorem sc_cntC : FnScope n_cntC ["self"] (defScope s_cntC) := ⟨rfl, rfl, rfl, by decide +kernel, rfl, by decide +kernel, by decide +kernel⟩
abbrev s_lenC : Stmt := inClass cC 13
abbrev n_lenC : List PySem.Str := ["self"]
theorem sc_lenC : FnScope n_lenC ["self"] (defScope s_lenC) := ⟨rfl, rfl, rfl, by decide +kernel, rfl, by decide +kernel, by decide +kernel⟩
abbrev s_repC : Stmt := inClass cC 14
abbrev n_repC : List PySem.Str := ["self"]
theorem sc_repC : FnScope n_repC ["self"] (defScope s_repC) := ⟨rfl, rfl, rfl, by decide +kernel, rfl, by decide +kernel, by decide +kernel⟩
section
variable {P : Program} {w : World} {K : PySem.W.Frag} {mg : PySem.Str → Option Value} {base : Heap} {α : Type} {QP : α → Hp → V → Prop}
theorem ok_tabC {f CT CB : Addr} {fd : FuncData} (F : FnM K "table" "Capped.table" s_tabC f fd) (c : BCl K CB) (m : QMon QP) : FnOk P w K mg base CX0 1 f fd ["self"] (spQ (IBTab CT CB QP)) := by
  refine F.ok sc_tabC (spQ_len (by rintro _ _ _ ⟨v, b, p, cap, st, n, rfl, _⟩; rfl)) (fun cdv A outer s H vs Q E hr h => ?_)
  obtain ⟨S, P0, fr, ⟨v, b, p, cap, st, n, rfl, bv, rfl⟩, q⟩ := h
  refine ⟨_, PSs.nox (pss_one (ps_ret (pe_fld (pv 0) rfl))), ?_⟩
  exact go_ret (P := TV CT st.ks) fr (e_bHeld c (e_varP (P := BV CT CB QP b p cap st n) rfl fun _ s => bv.mono m s)) q
theorem ok_qsC {f CT CB : Addr} {fd : FuncData} (F : FnM K "questions" "Capped.questions" s_qsC f fd) (c : BCl K CB) (m : QMon QP) : FnOk P w K mg base CX0 1 f fd ["self"] (spQ (IBQs CT CB QP)) := by
  refine F.ok sc_qsC (spQ_len (by rintro _ _ _ ⟨v, b, p, cap, st, n, rfl, _⟩; rfl)) (fun cdv A outer s H vs Q E hr h => ?_)
  obtain ⟨S, P0, fr, ⟨v, b, p, cap, st, n, rfl, bv, rfl⟩, q⟩ := h
  refine ⟨_, PSs.nox (pss_one (ps_ret (pe_fld (pv 0) rfl))), ?_⟩
  exact go_ret (P := WV QP st.qs) fr (e_bWatched c (e_varP (P := BV CT CB QP b p cap st n) rfl fun _ s => bv.mono m s)) q
theorem ok_chC {f CT CB : Addr} {fd : FuncData} (F : FnM K "changes" "Capped.changes" s_chC f fd) (T : Tx K mg) (c : BCl K CB) (m : QMon QP) : FnOk P w K mg base CX0 1 f fd ["self"] (spQ (IBCh CT CB QP)) := by
  refine F.ok sc_chC (spQ_len (by rintro _ _ _ ⟨v, b, p, cap, st, n, rfl, _⟩; rfl)) (fun cdv A outer s H vs Q E hr h => ?_)
  obtain ⟨S, P0, fr, ⟨v, b, p, cap, st, n, rfl, bv, rfl⟩, q⟩ := h
  refine ⟨_, PSs.nox (pss_one (ps_ret (pe_callB (call_lenQ : CallR _ _ (rLenQ K)) (by rfl) T.len bLen (pa_cons (pe_fld (pv 0) rfl) pa_nil)))), ?_⟩
  exact go_ret (P := fun H v => Rp H v (.int (n : Int))) fr (e_lenLn (e_bPast c (e_varP (P := BV CT CB QP b p cap st n) rfl fun _ s => bv.mono m s))) q
theorem ok_cntC {cnt : α → List Ro → Int} {f CT CB : Addr} {fd : FuncData} (F : FnM K "counts" "Capped.counts" s_cntC f fd) (c : BCl K CB) (m : QMon QP) (D1 : Fd P w K mg base "counts_in" 8 ["table", "questions"] (spQ (ICin CT QP cnt))) : FnOk P w K mg base CX0 9 f fd ["self"] (spQ (IBCnt CT CB QP cnt)) := by
  obtain ⟨f1, fd1, G1, b1, k1, m1⟩ := D1.ex
  refine F.ok sc_cntC (spQ_len (by rintro _ _ _ ⟨v, b, p, cap, st, n, rfl, _⟩; rfl)) (fun cdv A outer s H vs Q E hr h => ?_)
  obtain ⟨S, P0, fr, ⟨v, b, p, cap, st, n, rfl, bv, rfl⟩, q⟩ := h
  refine ⟨_, PSs.nox (pss_one (ps_ret (pe_call G1 (hr.mono (by decide)) rfl m1 k1 b1 .nil pass0 (pa_cons (pe_fld (pv 0) rfl) (pa_cons (pe_fld (pv 0) rfl) pa_nil))))), ?_⟩
  have hv : ∀ {F'}, Same (offS S H) F' → EvP (tVar 0) [some v] F' (BV CT CB QP b p cap st n) := fun s => e_varP rfl fun _ s2 => bv.mono m (s.trans s2)
  refine go_ret (P := fun H v => Rp H v (.tuple (st.qs.map fun q => .int (cnt q st.ks)))) fr (e_callQ (ap_cons (e_bHeld c (hv (Same.refl _))) mon_tv (ap_cons (e_bWatched c (hv (Same.refl _))) (mon_wv m) ap_nil)) fun F vs r => ?_) q
  obtain ⟨x, y, rfl, h1, h2⟩ := psa2 r
  exact ⟨x, y, st.ks, st.qs, rfl, h1, bv.g, h2, rfl⟩
theorem ok_lenC {f CT CB N fL : Addr} {fd fdL : FuncData} (F : FnM K "__len__" "Capped.__len__" s_lenC f fd) (T : Tx K mg) (c : BCl K CB) (m : QMon QP)
    (hsL : PySem.W.findIn K (.ref CT) "__len__" = some (some (.ref fL))) (hfL : PySem.W.isFn K (.ref fL) = true) (GLen : FnOk P w K mg base CX0 1 fL fdL ["self"] (spQ (ITLen CT))) (bLen2 : Binds K fdL ["self"] []) : FnOk P w K mg base CX0 3 f fd ["self"] (spQ (IBLen CT CB QP)) := by
  refine F.ok sc_lenC (spQ_len (by rintro _ _ _ ⟨v, b, p, cap, st, n, rfl, _⟩; rfl)) (fun cdv A outer s H vs Q E hr h => ?_)
  obtain ⟨S, P0, fr, ⟨v, b, p, cap, st, n, rfl, bv, rfl⟩, q⟩ := h
  refine ⟨_, PSs.nox (pss_one (ps_ret (pe_callB (call_lenO hsL hfL GLen bLen2 (hr.mono (by decide)) : CallR _ _ (rLenO CT (spQ (ITLen CT)))) (by rfl) T.len bLen (pa_cons (pe_fld (pv 0) rfl) pa_nil)))), ?_⟩
  have lk := goodT_len bv.g
  exact go_ret (P := fun H v => Rp H v (.int (st.ks.length : Int))) fr (e_lenTab (e_bHeld c (e_varP (P := BV CT CB QP b p cap st n) rfl fun _ s => bv.mono m s)) (by omega)) q
theorem ok_repC {f CT CB N fL : Addr} {fd fdL : FuncData} (F : FnM K "__repr__" "Capped.__repr__" s_repC f fd) (T : Tx K mg) (c : BCl K CB) (m : QMon QP)
    (hsL : PySem.W.findIn K (.ref CT) "__len__" = some (some (.ref fL))) (hfL : PySem.W.isFn K (.ref fL) = true) (GLen : FnOk P w K mg base CX0 1 fL fdL ["self"] (spQ (ITLen CT))) (bLen2 : Binds K fdL ["self"] []) : FnOk P w K mg base CX0 3 f fd ["self"] (spQ (IBRep CT CB QP "Capped")) := by
  refine F.ok sc_repC (spQ_len (by rintro _ _ _ ⟨v, b, p, cap, st, n, rfl, _⟩; rfl)) (fun cdv A outer s H vs Q E hr h => ?_)
  obtain ⟨S, P0, fr, ⟨v, b, p, cap, st, n, rfl, bv, rfl⟩, q⟩ := h
  refine ⟨_, PSs.nox (pss_one (ps_ret (pe_joinedQ (.cons pe_str (.cons (pe_fmt (pe_callB (call_lenO hsL hfL GLen bLen2 (hr.mono (by decide)) : CallR _ _ (rLenO CT (spQ (ITLen CT)))) (by rfl) T.len bLen (pa_cons (pe_fld (pv 0) rfl) pa_nil))) (.cons pe_str .nil)))))), ?_⟩
  have lk := goodT_len bv.g
  have small : ∀ n : Nat, n ≤ 12 → ((n : Nat) : Int).natAbs.log2 < 1920 := by decide +kernel
  have lens12 : ∀ n : Nat, n ≤ 12 → lens [("Capped" : PySem.Str) ++ PySem.Str.ofString "(", PySem.Str.ofString (toString (n : Int)), PySem.Str.ofString " rows)"] ≤ 1000 := by decide +kernel
  refine go_ret (P := fun H v => Rp H v (.str (bsay "Capped" st.ks.length))) fr (e_joined (ys := [("Capped" : PySem.Str) ++ PySem.Str.ofString "(", PySem.Str.ofString (toString (st.ks.length : Int)), PySem.Str.ofString " rows)"]) (.cons e_str (.cons (e_fmtI (e_lenTab (e_bHeld c (e_varP (P := BV CT CB QP b p cap st n) rfl fun _ s => bv.mono m s)) (by omega)) (small _ lk)) (.cons e_str .nil))) (lens12 _ lk)) q
end
end Q

set_option maxHeartbeats 1000000
namespace Q
open PySem PySem.Spec PyProof.Rows L2 Ca
/-! ### Capped: what is its own -/
abbrev s_mostC : Stmt := inClass cC 1
abbrev n_mostC : List PySem.Str := ["self"]
theorem sc_mostC : FnScope n_mostC ["self"] (defScope s_mostC) := ⟨rfl, rfl, rfl, by decide +kernel, rfl, by decide +kernel, by decide +kernel⟩
abbrev s_cinit : Stmt := inClass cC 0
abbrev n_cinit : List PySem.Str := ["self", "table", "most"]
theorem sc_cinit : SuX.SScope n_cinit ["self", "table", "most"] (defScope s_cinit) := ⟨rfl, rfl, rfl, by decide +kernel, rfl, by decide +kernel, by decide +kernel, by decide +kernel, rfl, rfl⟩
abbrev s_casg : Stmt := inClass cC 4
abbrev n_casg : List PySem.Str := ["self", "table"]
theorem sc_casg : SuX.SScope n_casg ["self", "table"] (defScope s_casg) := ⟨rfl, rfl, rfl, by decide +kernel, rfl, by decide +kernel, by decide +kernel, by decide +kernel, rfl, rfl⟩
abbrev s_cput : Stmt := inClass cC 5
abbrev n_cput : List PySem.Str := ["self", "kind", "left", "right", "often"]
theorem sc_cput : SuX.SScope n_cput ["self", "kind", "left", "right", "often"] (defScope s_cput) := ⟨rfl, rfl, rfl, by decide +kernel, rfl, by decide +kernel, by decide +kernel, by decide +kernel, rfl, rfl⟩
section
variable {P : Program} {w : World} {K : PySem.W.Frag} {mg : PySem.Str → Option Value} {base : Heap} {α : Type} {QP : α → Hp → V → Prop}
theorem ok_mostC {f CT CB : Addr} {fd : FuncData} (F : FnM K "most" "Capped.most" s_mostC f fd) (c : BCl K CB) (m : QMon QP) : FnOk P w K mg base CX0 1 f fd ["self"] (spQ (IBMost CT CB QP)) := by
  refine F.ok sc_mostC (spQ_len (by rintro _ _ _ ⟨v, b, p, cap, st, n, rfl, _⟩; rfl)) (fun cdv A outer s H vs Q E hr h => ?_)
  obtain ⟨S, P0, fr, ⟨v, b, p, cap, st, n, rfl, bv, rfl⟩, q⟩ := h
  refine ⟨_, PSs.nox (pss_one (ps_ret (pe_fld (pv 0) rfl))), ?_⟩
  exact go_ret (P := fun H v => Rp H v (.int cap)) fr (e_bCap c (e_varP (P := BV CT CB QP b p (some cap) st n) rfl fun _ s => bv.mono m s)) q
/-- put(..) of a capped book: what super() gives puts -/
theorem ok_cput {kf : Ky → List Ky} {f fC fO g CT CB D NK NN NX NO : Addr} {fd fdC fdO gd : FuncData} {file : PySem.Str} (F : SuX.FunS K "put" "Capped.put" (defArgs s_cput) (defBody s_cput) (defScope s_cput) [] file D f fd) (pf : SuX.PFile P file) (sk : SuX.SupK K mg CB D) (sm : SuX.SupM K CB D "put" g) (c : BCl K CB) (m : QMon QP)
    (GC : FnOk P w K mg base (L2.CX P w) 4 fC fdC ["kind", "left", "right", "often"] (spCkp NK NN)) (bC : Binds K fdC ["kind", "left", "right", "often"] []) (kC : PySem.W.keepIn K (.ref fC) = true) (gC : mg "check_put" = some (.ref fC))
    (GO : FnOk P w K mg base (L2.CX P w) 1 fO fdO ["often", "most"] (spCko NO)) (bO : Binds K fdO ["often", "most"] []) (kO : PySem.W.keepIn K (.ref fO) = true) (gO : mg "check_often" = some (.ref fO))
    (G : FnOk P w K mg base (L2.CX P w) 10 g gd ["self", "kind", "left", "right", "often"] (spPut CT CB QP kf NK NN NX)) (bG : Binds K gd ["self", "kind", "left", "right", "often"] []) :
    FnOk P w K mg base (L2.CX P w) 11 f fd ["self", "kind", "left", "right", "often"] (spPutC CT CB QP kf NK NN NX NO) := by
  refine SuX.fnS_of F pf sc_cput (hp0_of rfl rfl) (fun vs H Q E h => ?_) (fun cda cc A outer s H vs Q E hh hr h => ?_)
  · obtain ⟨S, b, p, cp, st, past, v1, v2, v3, v4, d1, d2, d3, d4, rfl, _⟩ := h
    rfl
  obtain ⟨S, b, p, cp, st, past, v1, v2, v3, v4, d1, d2, d3, d4, rfl, fr, bd, l9, hc, ra, kK, kN, kQ⟩ := h
  have pL := passes_call (X := SuX.cxS (L2.CX P w) P w K mg base n_cput "Capped.put" (defScope s_cput) f cda cc A outer s H E) (takes_of rfl rfl rfl rfl) (E := E) (fun _ _ _ _ h => h)
  refine ⟨_, SuX.pas_cons (SuX.pa1_of (ps_expr (pe_call GC (hr.mono (by decide)) rfl gC kC bC .nil pL (pa_cons (pv 1) (pa_cons (pv 2) (pa_cons (pv 3) (pa_cons (pv 4) pa_nil)))))))
    (SuX.pas_cons (SuX.pa1_of (ps_expr (pe_call GO (hr.mono (by decide)) rfl gO kO bO .nil pL (pa_cons (pv 4) (pa_cons (pe_fld (pv 0) rfl) pa_nil)))))
      (SuX.pas_one (SuX.pa1_expr (SuX.px_sup sc_cput hh sk sm G (hr.mono (by decide)) bG .nil pL (pa_cons (pv 1) (pa_cons (pv 2) (pa_cons (pv 3) (pa_cons (pv 4) pa_nil)))) (fun I hb h => SuX.cw_args sm.fi (by rfl) (by rfl) I hb h))))), ?_⟩
  refine ⟨v1, rfl, v2, rfl, v3, rfl, v4, rfl, S, v1, v2, v3, v4, d1, d2, d3, d4, rfl, fr, ra, kK, kN, fun z1 z2 H1 s1 => ?_⟩
  obtain ⟨q, rfl, rfl, rfl, gq⟩ := isTri_is z1
  obtain ⟨n, rfl, n0, n9⟩ := isNum_is z2
  obtain ⟨kO2, kQ⟩ := kQ q n rfl rfl rfl rfl gq n0 n9
  have bd1 := bd.same m s1
  have fr1 := fr.mono s1
  obtain ⟨dx, t0, w0, xs, hb1, _⟩ := id bd1.ex
  obtain ⟨r1, r2, r3, r4⟩ := rpv4 (ra.mono (offS_mono (S := S) s1))
  cases r4
  refine ⟨_, rfl, .ref b, rfl, b, CB, dx, _, _, rfl, hb1, c.cl, c.nC, bf_cap _ _ _ _, S, n, cp, rfl, fr1, hc.1, hc.2, fun l H2 s2 => kO2 l H2 (s1.trans s2), fun l H2 s2 => ?_⟩
  have bd2 := bd1.same m s2
  obtain ⟨dx2, t2, w2, xs2, hb2, _⟩ := id bd2.ex
  refine ⟨b, dx2, _, rfl, hb2, v1, rfl, v2, rfl, v3, rfl, _, rfl, S, b, p, some cp, st, past, v1, v2, v3, _, _, _, _, _, rfl, fr1.mono s2, bd2, l9, ra.mono (offS_mono (s1.trans s2)), fun z => absurd (z1.symm.trans z) (by decide), fun _ z => absurd (z2.symm.trans z) (by decide), fun q2 n2 e1 e2 e3 e4 gq2 n02 n92 => ?_⟩
  cases e4
  have : q2 = q := by
    obtain ⟨a, b, c⟩ := q
    obtain ⟨a', b', c'⟩ := q2
    cases e1
    cases e2
    cases e3
    rfl
  subst this
  obtain ⟨k1, k2⟩ := kQ l
  exact ⟨fun l2 H' s' => k1 l2 H' (s1.trans (s2.trans s')), fun l2 ms es pm gm H' kb bd' => k2 l2 ms es pm gm H' ((Kb.of (s1.trans s2)).trans kb) bd'⟩
/-- Capped's assign_table(..): what super() gives assigns, its own look first -/
theorem ok_casg {chk : Option Int → List Ro → Option Addr} {f fC fO g CT CB D N NT NO : Addr} {fd fdC fdO gd : FuncData} {file : PySem.Str} (F : SuX.FunS K "assign_table" "Capped.assign_table" (defArgs s_casg) (defBody s_casg) (defScope s_casg) [] file D f fd) (pf : SuX.PFile P file) (sk : SuX.SupK K mg CB D) (sm : SuX.SupM K CB D "assign_table" g) (c : BCl K CB) (m : QMon QP)
    (GC : FnOk P w K mg base (L2.CX P w) 1 fC fdC ["thing"] (spCk CT NT)) (bC : Binds K fdC ["thing"] []) (kC : PySem.W.keepIn K (.ref fC) = true) (gC : mg "check_table" = some (.ref fC))
    (GO : FnOk P w K mg base (L2.CX P w) 3 fO fdO ["table", "most"] (spCkr CT NO)) (bO : Binds K fdO ["table", "most"] []) (kO : PySem.W.keepIn K (.ref fO) = true) (gO : mg "check_rows_often" = some (.ref fO))
    {k : Nat} (k3 : 3 ≤ k) (G : FnOk P w K mg base (L2.CX P w) k g gd ["self", "table"] (spAsg CT CB QP NT AnyCap chk)) (bG : Binds K gd ["self", "table"] []) :
    FnOk P w K mg base (L2.CX P w) (k + 1) f fd ["self", "table"] (spAsg CT CB QP NT IsCap (ofChk NO chk)) := by
  refine SuX.fnS_of F pf sc_casg (hp0_of rfl rfl) (fun vs H Q E h => ?_) (fun cda cc A outer s H vs Q E hh hr h => ?_)
  · obtain ⟨S, b, p, cap, st, past, v, ks, is, rfl, _⟩ := h
    rfl
  obtain ⟨S, b, p, cap, st, past, v, ks, is, rfl, fr, bd, l9, ⟨cp, rfl, hc⟩, hv, kE, kR, kQ⟩ := h
  have pL := passes_call (X := SuX.cxS (L2.CX P w) P w K mg base n_casg "Capped.assign_table" (defScope s_casg) f cda cc A outer s H E) (takes_of rfl rfl rfl rfl) (E := E) (fun _ _ _ _ h => h)
  refine ⟨_, SuX.pas_cons (SuX.pa1_of (ps_expr (pe_call GC (hr.mono (by omega)) rfl gC kC bC .nil pL (pa_cons (pv 1) pa_nil))))
    (SuX.pas_cons (SuX.pa1_of (ps_expr (pe_call GO (hr.mono (by omega)) rfl gO kO bO .nil pL (pa_cons (pv 1) (pa_cons (pe_fld (pv 0) rfl) pa_nil)))))
      (SuX.pas_one (SuX.pa1_expr (SuX.px_sup sc_casg hh sk sm G hr bG .nil pL (pa_cons (pv 1) pa_nil) (fun I hb h => SuX.cw_args sm.fi (by rfl) (by rfl) I hb h))))), ?_⟩
  refine ⟨v, rfl, S, v, is, rfl, fr, ?_, kE, fun z H1 s1 => ?_⟩
  · rcases hv with ⟨e, tv, g⟩ | ⟨e, od⟩
    · exact .inl ⟨e, ks, tv⟩
    · exact .inr ⟨e, od⟩
  obtain ⟨_, tv, gk⟩ : is = true ∧ TV CT ks (offS S H) v ∧ GoodT ks := by
    rcases hv with h | ⟨e, _⟩
    · exact h
    · rw [e] at z
      cases z
  have bd1 := bd.same m s1
  have fr1 := fr.mono s1
  obtain ⟨dx, t0, w0, xs, hb1, hp1, tv1, wv1, _⟩ := id bd1.ex
  refine ⟨v, rfl, .ref b, rfl, b, CB, dx, _, _, rfl, hb1, c.cl, c.nC, bf_cap _ _ _ _, S, v, ks, cp, rfl, fr1, tv.mono (offS_mono s1), gk, hc.1, hc.2, fun l H2 s2 => ?_, fun l H2 s2 => ?_⟩
  · refine kR z NO (of_yes ?_) H2 (s1.trans s2)
    obtain ⟨a, ha, z⟩ := l
    exact List.any_eq_true.mpr ⟨a, ha, decide_eq_true z⟩
  have no : ¬ often? (some cp) ks = true := fun z => by
    obtain ⟨a, ha, z⟩ := often_yes z
    have := l a ha
    omega
  have bd2 := bd1.same m s2
  obtain ⟨dx2, t2, w2, xs2, hb2, _⟩ := id bd2.ex
  exact ⟨b, dx2, _, rfl, hb2, v, rfl, S, b, p, some cp, st, past, v, ks, is, rfl, fr1.mono s2, bd2, l9, trivial, .inl ⟨z, tv.mono (offS_mono (s1.trans s2)), gk⟩, fun z2 => absurd (z.symm.trans z2) (by decide), fun _ N hN H3 s3 => kR z N ((of_no no).trans hN) H3 (s1.trans (s2.trans s3)), fun _ hN H3 kb bd3 => kQ z ((of_no no).trans hN) H3 ((Kb.of (s1.trans s2)).trans kb) bd3⟩
/-- Capped's own __init__ -/
theorem ok_cinit {chk : List Ro → Option Addr} {dvs : List V} {f fC fO fN g CT CB D NT NO NN : Addr} {fd fdC fdO fdN gd : FuncData} {file : PySem.Str} (F : SuX.FunS K "__init__" "Capped.__init__" (defArgs s_cinit) (defBody s_cinit) (defScope s_cinit) dvs file D f fd) (pf : SuX.PFile P file) (sk : SuX.SupK K mg CB D) (sm : SuX.SupM K CB D "__init__" g) (c : BCl K CB) (m : QMon QP)
    (GC : FnOk P w K mg base (L2.CX P w) 1 fC fdC ["thing"] (spCk CT NT)) (bC : Binds K fdC ["thing"] []) (kC : PySem.W.keepIn K (.ref fC) = true) (gC : mg "check_table" = some (.ref fC))
    (GN : FnOk P w K mg base (L2.CX P w) 2 fN fdN ["thing"] (spCkm NN)) (bN : Binds K fdN ["thing"] []) (kN : PySem.W.keepIn K (.ref fN) = true) (gN : mg "check_most" = some (.ref fN))
    (GO : FnOk P w K mg base (L2.CX P w) 3 fO fdO ["table", "most"] (spCkr CT NO)) (bO : Binds K fdO ["table", "most"] []) (kO : PySem.W.keepIn K (.ref fO) = true) (gO : mg "check_rows_often" = some (.ref fO))
    {k : Nat} (k3 : 3 ≤ k) (G : FnOk P w K mg base (L2.CX P w) k g gd ["self", "table"] (spInitU CT CB QP NT chk)) (bG : Binds K gd ["self", "table"] []) :
    FnOk P w K mg base (L2.CX P w) (k + 1) f fd ["self", "table", "most"] (spInitC CT CB QP NT NN (ofChk NO fun _ ks => chk ks)) := by
  refine SuX.fnS_of F pf sc_cinit (hp0_of rfl rfl) (fun vs H Q E h => ?_) (fun cda cc A outer s H vs Q E hh hr h => ?_)
  · obtain ⟨S, x, dx, v, vm, ks, is, dm, rfl, _⟩ := h
    rfl
  obtain ⟨S, x, dx, v, vm, ks, is, dm, rfl, fr, sx, hx, rm, hv, kE, kN2, kQ⟩ := h
  have pL := passes_call (X := SuX.cxS (L2.CX P w) P w K mg base n_cinit "Capped.__init__" (defScope s_cinit) f cda cc A outer s H E) (takes_of rfl rfl rfl rfl) (E := E) (fun _ _ _ _ h => h)
  refine ⟨_, SuX.pas_cons (SuX.pa1_of (ps_expr (pe_call GC (hr.mono (by omega)) rfl gC kC bC .nil pL (pa_cons (pv 1) pa_nil))))
    (SuX.pas_cons (SuX.pa1_of (ps_expr (pe_call GN (hr.mono (by omega)) rfl gN kN bN .nil pL (pa_cons (pv 2) pa_nil))))
    (SuX.pas_cons (SuX.pa1_of (ps_expr (pe_call GO (hr.mono (by omega)) rfl gO kO bO .nil pL (pa_cons (pv 1) (pa_cons (pv 2) pa_nil)))))
    (SuX.pas_cons (SuX.pa1_expr (SuX.px_sup sc_cinit hh sk sm G hr bG .nil pL (pa_cons (pv 1) pa_nil) (fun I hb h => SuX.cw_args sm.fi (by rfl) (by rfl) I hb h)))
    (SuX.pas_of (pss_one (ps_fld (pv 0) (pv 2) rfl)))))), ?_⟩
  refine ⟨v, rfl, S, v, is, rfl, fr, ?_, kE, fun z H1 s1 => ?_⟩
  · rcases hv with ⟨e, tv, g⟩ | ⟨e, od⟩
    · exact .inl ⟨e, ks, tv⟩
    · exact .inr ⟨e, od⟩
  obtain ⟨_, tv, gk⟩ : is = true ∧ TV CT ks (offS S H) v ∧ GoodT ks := by
    rcases hv with h | ⟨e, _⟩
    · exact h
    · rw [e] at z
      cases z
  refine ⟨vm, rfl, S, vm, dm, rfl, fr.mono s1, rm.mono (offS_mono s1), fun z2 H2 s2 => kN2 z z2 H2 (s1.trans s2), fun z2 H2 s2 => ?_⟩
  obtain ⟨cp, rfl, c1, c9⟩ := isNum_is z2
  cases rm
  obtain ⟨kR, kQ⟩ := kQ cp z rfl c1 c9
  have s12 := s1.trans s2
  refine ⟨v, rfl, _, rfl, S, v, ks, cp, rfl, fr.mono s12, tv.mono (offS_mono s12), gk, by omega, c9, fun l H3 s3 => ?_, fun l H3 s3 => ?_⟩
  · refine kR NO (of_yes ?_) H3 (s12.trans s3)
    obtain ⟨a, ha, z⟩ := l
    exact List.any_eq_true.mpr ⟨a, ha, decide_eq_true z⟩
  have no : ¬ often? (some cp) ks = true := fun z => by
    obtain ⟨a, ha, z⟩ := often_yes z
    have := l a ha
    omega
  have s13 := s12.trans s3
  refine ⟨x, dx, [], rfl, s13 _ _ hx, v, rfl, S, x, dx, v, ks, is, rfl, fr.mono s13, sx, s13 _ _ hx, .inl ⟨z, tv.mono (offS_mono s13), gk⟩, fun z2 => absurd (z.symm.trans z2) (by decide), fun _ N hN H4 s4 => kR N ((of_no no).trans hN) H4 (s13.trans s4), fun _ hN p H4 hp kp bd => ?_⟩
  obtain ⟨dx4, t4, w4, xs4, hb4, _⟩ := id bd.ex
  refine ⟨_, rfl, .ref x, rfl, x, CB, dx4, _, rfl, hb4, c.cl, c.nC, bf_len _ _ _ _, ?_⟩
  rw [bf_setC]
  have hp0 : H p = none := by
    cases e : H p with
    | none => rfl
    | some o =>
      rw [s13 _ _ e] at hp
      cases hp
  exact kQ ((of_no no).trans hN) p _ hp0 (fun y o n e => by rw [upd_ne n]; exact kp y o n (s13 _ _ e)) (bd_cap m bd hb4)
end
end Q

set_option maxHeartbeats 4000000
/-! set(x), x a list of ints, with what sorted asks of the set -/
namespace Ca
open PySem PySem.Spec PyProof.Rows L2
section
variable {P : Program} {w : World} {A : Around} {E : Value → Shared → Prop} {s : Shared}
/-- what stands behind: the new set S holds just the ints ns -/
def SetHas (w : World) (s : Shared) (ns : List Int) (s2 : Shared) : Prop := ∃ (g : Heap) (tk c : Nat), s2 = { s with heap := g, toks := tk } ∧ SetR w g s.heap.objs.size (fun j => decide (j ∈ ns)) c ∧ c ≤ ns.length ∧ ∀ b o, s.heap.get? b = some o → g.get? b = some o
/-- the set is filled from the list -/
theorem fill_list {l : Addr} {vs : Array Value} {ns : List Int} {R : Result → Shared → Prop} (calm : A.handled = none) (isl : s.heap.IsList l vs) (are : IntsAre vs.toList ns) (few : ns.length + 1 < scanBound)
    (fin : ∀ s2, SetHas w s ns s2 → R (.ok (.ret .none)) s2) :
    codeAny (model P w) A (.builtin "set.update.loop" ⟨[.ref s.heap.objs.size, .ref (s.heap.objs.size + 1)], []⟩) R { s with heap := (s.heap.push (eSet w)).push { cls := .type "list_iterator", data := .fields #[.ref l, .int 0 0] } } := by
  have many : vs.size = ns.length := by
    have z := IntsAre.length are
    rw [Array.length_toList] at z
    exact z
  obtain ⟨ol, hol, hrest⟩ := id isl
  have low : l < s.heap.objs.size := Heap.lt_size hol
  have sz : (s.heap.push (eSet w)).objs.size = s.heap.objs.size + 1 := Heap.size_push ..
  have at0 : (s.heap.push (eSet w)).get? s.heap.objs.size = some (eSet w) := Heap.get?_push_size _ rfl
  have isl1 : (s.heap.push (eSet w)).IsList l vs := isl.push _
  have ne1 : l ≠ s.heap.objs.size + 1 := Nat.ne_of_lt (Nat.lt_succ_of_lt low)
  have notin : s.heap.objs.size ∉ [s.heap.objs.size + 1, l] := by
    intro z
    rcases List.mem_cons.mp z with z | z
    · exact absurd z (Nat.ne_of_lt (Nat.lt_succ_self _))
    · exact absurd (List.mem_singleton.mp z) (Nat.ne_of_gt low)
  have vals : ∀ (i : Nat) (v : Value), vs[i]? = some v → ∃ k t, ns[i]? = some k ∧ v = .int k t := fun i v hv => by
    have lt : i < ns.length := by
      rw [← many]
      exact (Array.getElem?_eq_some_iff.mp hv).1
    obtain ⟨t, e⟩ := IntsAre.int_at are i v (by rw [Array.getElem?_toList]; exact hv)
    have g : ns.getD i 0 = ns[i] := by
      rw [List.getD_eq_getElem?_getD, List.getElem?_eq_getElem lt]
      rfl
    exact ⟨ns[i], t, List.getElem?_eq_getElem lt, by rw [e, g]⟩
  have c3 : A.in1.handled = none := by simp [calm]
  have iter : ((s.heap.push (eSet w)).push { cls := .type "list_iterator", data := .fields #[.ref l, .int 0 0] }).IsListIter (s.heap.objs.size + 1) l 0 := by
    rw [← sz]
    exact ⟨_, Heap.get?_push_size _ rfl, rfl, rfl⟩
  have keep0 : ((s.heap.push (eSet w)).push { cls := .type "list_iterator", data := .fields #[.ref l, .int 0 0] }).get? s.heap.objs.size = some (eSet w) := Heap.get?_push_of_some _ at0
  refine set_update_ints ((Walks.list c3 (s.heap.objs.size + 1) l ne1 vs).toS) s.heap.objs.size notin ns many few vals (vs.size - 0) 0 _ (by omega) (Nat.zero_le _) ⟨iter, isl1.push _⟩ ⟨0, Nat.le_refl 0, setR_new_at keep0⟩ fun s2 c mv hc hR => fin s2 ?_
  obtain ⟨g, gs, dr, tk, os⟩ := s2
  obtain rfl : gs = s.gens := mv.gens
  obtain rfl : dr = s.drawn := mv.drawn
  obtain rfl : os = s.os := mv.os
  refine ⟨g, tk, c, rfl, hR, by omega, fun b o e => ?_⟩
  have lb := Heap.lt_size e
  refine mv.heap b o (fun z => ?_) (Heap.get?_push_of_some _ (Heap.get?_push_of_some _ e))
  rcases List.mem_cons.mp z with z | z
  · exact absurd z (Nat.ne_of_lt lb)
  · exact absurd (List.mem_singleton.mp z) (Nat.ne_of_lt (Nat.lt_succ_of_lt lb))
/-- set(x) -/
theorem set_of_list {l : Addr} {vs : Array Value} {ns : List Int} {Q : Value → Shared → Prop} (calm : A.handled = none) (isl : s.heap.IsList l vs) (are : IntsAre vs.toList ns) (few : ns.length + 1 < scanBound)
    (fin : ∀ s2, SetHas w s ns s2 → Q (.ref s.heap.objs.size) s2) : wpAny (model P w) A (call (.type "set") [.ref l]) Q E s := by
  have f1 := F.called_set.made
  have f2 := F.called_set.sub
  have f3 := F.called_set.notType
  have f4 := F.called_set.canCreate
  have f5 := F.typeCall_set_1 (.ref l)
  obtain ⟨c0, tl0, f6⟩ := F.called_set.mro
  refine wpAny_call (codeAny_of_tree (show wpAny _ _ (callAny (.type "set") _) _ _ _ from wpAny_pure ⟨Code.quiet_builtin _ (by decide +kernel), codeAny_builtin F.entry_type_call ?_⟩))
  rw [Around.under_plain (weight_type_call_type "set" [.ref l] []) rfl]
  repeat (any_goals (first | assumption | wp_step))
  refine codeAny_mono (code_set_led1 (.ref l) (E := E) (Q₁ := fun v s1 => v = .ref s.heap.objs.size ∧ s1 = { s with heap := s.heap.push (eSet w) }) ⟨rfl, rfl⟩) fun r s1 hr => ?_
  match r, hr with
  | .error e, hr => exact hr
  | .ok (.ret v), hr =>
    obtain ⟨ev, es⟩ := hr
    subst ev es
    have at0 : (s.heap.push (eSet w)).get? s.heap.objs.size = some (eSet w) := Heap.get?_push_size _ rfl
    have ty0 : Shared.TypeIs { s with heap := s.heap.push (eSet w) } (.ref s.heap.objs.size) "set" := ⟨_, at0, rfl⟩
    have f7 := F.called_set.init.lookup
    have f8 := F.called_set.init.bind (.ref s.heap.objs.size)
    repeat (any_goals (first | assumption | wp_step))
    refine codeAny_mono (codeAny_call_builtin (R := wants (fun v s2 => v = .none ∧ SetHas w s ns s2) E) F.called_set.init.plain F.entry_set_init (check_set_init_1 ty0 ?_)) fun r2 s2 hr2 => ?_
    · have ne : (Value.type "list" == Value.type "dict") = false := by decide
      have g1 := F.sub_list_set
      have g2 := F.sub_list_frozenset
      obtain ⟨ol, hol, hc, n, hd⟩ := id isl
      obtain ⟨oc, od, odt, osl⟩ := ol
      obtain rfl : oc = .type "list" := hc
      obtain rfl : odt = .seq vs n := hd
      have atl : (s.heap.push (eSet w)).get? l = some { cls := .type "list", dict := od, data := .seq vs n, slots := osl } := Heap.get?_push_of_some _ hol
      (unfold Builtin.«set.__init__»; unfold noKeywords; unfold Builtin.Frozenset.updateFrom)
      generalize ei : pyIter = IT
      wp_walk
      subst ei
      have isl1 : (s.heap.push (eSet w)).IsList l vs := ⟨_, atl, rfl, n, rfl⟩
      refine wpAny_pyIter_list isl1 (wpAny_bind (wpAny_runValue ?_))
      have sz : (s.heap.push (eSet w)).objs.size = s.heap.objs.size + 1 := Heap.size_push ..
      rw [sz]
      refine fill_list (by simp [calm]) isl are few fun s2 has => ?_
      exact wpAny_pure (wpAny_pure ⟨rfl, has⟩)
    · match r2, hr2 with
      | .error e, hr2 => exact hr2
      | .ok (.ret v2), hr2 =>
        obtain ⟨ev2, has⟩ := hr2
        subst ev2
        repeat (any_goals (first | assumption | wp_step))
        exact fin _ has
end
end Ca

set_option maxHeartbeats 4000000
namespace TM
open PySem PySem.Spec PyProof.Rows L2
/-! set(x), x a tuple or a list of tuples of ints and texts -/
section
variable {P : Program} {w : World} {A : Around} {E : Value → Shared → Prop} {s : Shared}
/-- what the set holds after i of the keys -/
structure Filled (ks : List (Addr × List Key)) (i : Nat) (rs : List (Addr × List Key)) : Prop where
  of : ∀ p ∈ rs, p ∈ ks
  has : ∀ p ∈ ks.take i, p.2 ∈ rs.map Prod.snd
  few : rs.length ≤ i
theorem Ky.along {h h' : Heap} {k : List Key} {b : Addr} (x : Ky P w h k b) (hk : ∀ c o, h.get? c = some o → h'.get? c = some o) : Ky P w h' k b := by
  obtain ⟨o, its, n, at_, more⟩ := x
  exact ⟨o, its, n, hk b o at_, more⟩
theorem Bag.along {h h' : Heap} {d : Addr} {rs : List (Addr × List Key)} {es : Array (Int × Value)} {ep : Nat} {t : SetTable} (B : Bag P w h d rs es ep t) (hd : ∀ o, h.get? d = some o → h'.get? d = some o) (hk : ∀ p ∈ rs, Ky P w h' p.2 p.1) : Bag P w h' d rs es ep t := by
  obtain ⟨o, at_, more⟩ := B.here
  exact ⟨⟨o, hd o at_, more⟩, B.ents, B.tab, B.dist, hk, B.gap, B.led⟩
/-- the state while the set at S is filled; h0 is what stood before -/
structure Mid (P : Program) (w : World) (h0 : Heap) (S : Addr) (ks : List (Addr × List Key)) (i : Nat) (h : Heap) : Prop where
  old : ∀ b o, h0.get? b = some o → h.get? b = some o
  bag : ∃ rs es ep t, Bag P w h S rs es ep t ∧ Filled ks i rs
theorem bag_loop {I : Addr} {fp wr : List Addr} {G : Array GenState → Array GenState → Prop} {n : Nat} {Pv : Nat → Value → Prop} {St : Nat → Shared → Prop} {R : Result → Shared → Prop} (W : WalksS P w A.in1 I fp wr G n Pv St) (S : Addr) (out : S ∉ fp)
    (ks : List (Addr × List Key)) (many : n = ks.length) (few : ks.length ≤ 16) (vals : ∀ i v, Pv i v → ∃ p, ks[i]? = some p ∧ v = .ref p.1) (h0 : Heap) (keys : ∀ p ∈ ks, Ky P w h0 p.2 p.1) (newS : h0.get? S = none) (newW : ∀ b ∈ wr, h0.get? b = none) (hu : A.in1.units + 1 < cLine) :
    ∀ (m i : Nat) (s : Shared), n - i = m → i ≤ n → St i s → Mid P w h0 S ks i s.heap → (∀ s', Moved (S :: wr) G s s' → Mid P w h0 S ks n s'.heap → R (.ok (.ret .none)) s') → codeAny (model P w) A (.builtin "set.update.loop" ⟨[.ref S, .ref I], []⟩) R s := by
  have apart : S ∉ wr := fun z => out (W.sub _ z)
  -- a turn of the iterator leaves all of it
  have step : ∀ {i : Nat} {s s' : Shared}, Moved wr G s s' → Mid P w h0 S ks i s.heap → Mid P w h0 S ks i s'.heap := fun {i s s'} mv md => by
    have old : ∀ b o, h0.get? b = some o → s'.heap.get? b = some o := fun b o e => mv.heap b o (fun z => by rw [newW b z] at e; cases e) (md.old b o e)
    obtain ⟨rs, es, ep, t, B, fl⟩ := md.bag
    exact ⟨old, rs, es, ep, t, B.along (fun o e => mv.heap S o apart e) fun p hp => (keys p (fl.of p hp)).along old, fl⟩
  have wide : ∀ b ∈ wr, b ∈ S :: wr := fun b z => .tail _ z
  intro m
  induction m with
  | zero =>
    intro i s hm hi st md fin
    have e : i = n := by omega
    rw [e] at st md
    (refine codeAny_builtin F.entry_set_update_loop ?_); (rw [Around.under_plainId F.plain_set_update_loop _])
    exact (show wpAny _ A.in1 (pyNext (.ref I) >>= _) _ _ s from wpAny_bind (W.done s _ _ st fun s' mv => (show wpAny _ A.in1 (ret Value.none) _ _ s' from wpAny_pure (fin s' (mv.mono wide) (step mv md)))))
  | succ m ih =>
    intro i s hm hi st md fin
    (refine codeAny_builtin F.entry_set_update_loop ?_); (rw [Around.under_plainId F.plain_set_update_loop _])
    refine (show wpAny _ A.in1 (pyNext (.ref I) >>= _) _ _ s from wpAny_bind (W.item i s _ _ (by omega) st fun v s' hv st' mv => ?_))
    obtain ⟨p, hp, rfl⟩ := vals i v hv
    obtain ⟨old, rs, es, ep, t, B, fl⟩ := step mv md
    have key := (keys p (List.mem_of_getElem? hp)).along old
    refine (show wpAny _ A.in1 (holding [Value.ref p.1] (setAdd S (.ref p.1)) >>= _) _ _ s' from wpAny_bind (wpAny_holding ?_))
    unfold setAdd
    refine wpAny_holding (wpAny_bind (wpAny_pyHash_tuple (Nat.lt_of_succ_lt hu) key (adds (s := { s' with toks := s'.toks + (p.2.length + 1) }) B key (Nat.lt_of_succ_lt hu) (Nat.le_trans fl.few (by omega)) fun b h' rs' es' ep' t' sb B' c1 c2 => wpAny_pure ⟨plainId_quiet F.plain_set_update_loop _, ?_⟩)))
    have old' : ∀ b o, h0.get? b = some o → h'.get? b = some o := fun b o e => (sb.2 b fun z => by rw [z, newS] at e; cases e).trans (old b o e)
    have fl' : Filled ks (i + 1) rs' := by
      have tk : ks.take (i + 1) = ks.take i ++ [p] := Ca.take_more hp
      by_cases c : p.2 ∈ rs.map Prod.snd
      · rw [c1 c]
        exact ⟨fl.of, fun q hq => by
          rw [tk] at hq
          exact (List.mem_append.mp hq).elim (fl.has q) fun z => List.mem_singleton.mp z ▸ c, Nat.le_succ_of_le fl.few⟩
      · have pm := c2 c
        refine ⟨fun q hq => ?_, fun q hq => ?_, by rw [pm.length_eq]; exact Nat.succ_le_succ fl.few⟩
        · exact (List.mem_cons.mp (pm.mem_iff.mp hq)).elim (fun z => z ▸ List.mem_of_getElem? hp) (fl.of q)
        · rw [tk] at hq
          refine (pm.map Prod.snd).mem_iff.mpr ((List.mem_append.mp hq).elim (fun z => .tail _ (fl.has q z)) fun z => List.mem_singleton.mp z ▸ .head _)
    refine ih (i + 1) _ (by omega) (by omega) (W.frame _ s' _ _ st' (Nat.le_add_right _ _) fun b hb o e => (sb.2 b fun z : b = S => out (z ▸ hb)).trans e) ⟨old', rs', es', ep', t', B', fl'⟩ fun s2 mv2 md2 => fin s2 (Moved.trans W.gtrans ((mv.mono wide).then_heap (Nat.le_add_right _ _) fun b o hb e => ?_) mv2) md2
    exact (sb.2 b fun z : b = S => hb (z ▸ .head _)).trans e
/-- what stands behind: the new set holds just the keys -/
def BagHas (P : Program) (w : World) (s : Shared) (ks : List (Addr × List Key)) (s2 : Shared) : Prop := ∃ (g : Heap) (tk : Nat), s2 = { s with heap := g, toks := tk } ∧ Mid P w s.heap s.heap.objs.size ks ks.length g
theorem fill_keys {l : Addr} {vs : Array Value} {ks : List (Addr × List Key)} {R : Result → Shared → Prop} (calm : A.handled = none) (hu : A.in1.units + 1 < cLine) (ist : s.heap.IsTuple l vs) (are : vs.toList = ks.map fun p => Value.ref p.1) (few : ks.length ≤ 16) (keys : ∀ p ∈ ks, Ky P w s.heap p.2 p.1)
    (fin : ∀ s2, BagHas P w s ks s2 → R (.ok (.ret .none)) s2) :
    codeAny (model P w) A (.builtin "set.update.loop" ⟨[.ref s.heap.objs.size, .ref (s.heap.objs.size + 1)], []⟩) R { s with heap := (s.heap.push (Ca.eSet w)).push { cls := .type "tuple_iterator", data := .fields #[.ref l, .int 0 0] } } := by
  have many : vs.size = ks.length := by rw [← Array.length_toList, are, List.length_map]
  obtain ⟨ol, hol, hrest⟩ := id ist
  have low : l < s.heap.objs.size := Heap.lt_size hol
  have sz : (s.heap.push (Ca.eSet w)).objs.size = s.heap.objs.size + 1 := Heap.size_push ..
  have at0 : (s.heap.push (Ca.eSet w)).get? s.heap.objs.size = some (Ca.eSet w) := Heap.get?_push_size _ rfl
  have ist1 : (s.heap.push (Ca.eSet w)).IsTuple l vs := ist.at fun o e => Heap.get?_push_of_some _ e
  have ne1 : l ≠ s.heap.objs.size + 1 := Nat.ne_of_lt (Nat.lt_succ_of_lt low)
  have notin : s.heap.objs.size ∉ [s.heap.objs.size + 1, l] := fun z => (List.mem_cons.mp z).elim (fun z => absurd z (Nat.ne_of_lt (Nat.lt_succ_self _))) fun z => absurd (List.mem_singleton.mp z) (Nat.ne_of_gt low)
  have vals : ∀ (i : Nat) (v : Value), vs[i]? = some v → ∃ p, ks[i]? = some p ∧ v = .ref p.1 := fun i v hv => by
    have z : vs.toList[i]? = some v := by rw [Array.getElem?_toList]; exact hv
    rw [are, List.getElem?_map, Option.map_eq_some_iff] at z
    obtain ⟨p, e, rfl⟩ := z
    exact ⟨p, e, rfl⟩
  have c3 : A.in1.handled = none := by simp [calm]
  have iter : ((s.heap.push (Ca.eSet w)).push { cls := .type "tuple_iterator", data := .fields #[.ref l, .int 0 0] }).IsTupleIter (s.heap.objs.size + 1) l 0 := by
    rw [← sz]
    exact ⟨_, Heap.get?_push_size _ rfl, rfl, rfl⟩
  have keep0 : ((s.heap.push (Ca.eSet w)).push { cls := .type "tuple_iterator", data := .fields #[.ref l, .int 0 0] }).get? s.heap.objs.size = some (Ca.eSet w) := Heap.get?_push_of_some _ at0
  have fresh : ∀ b, s.heap.objs.size ≤ b → s.heap.get? b = none := fun b hb => Heap.get?_none_of_le hb
  obtain ⟨es, ep, t, here, ents, tab, dist, gap, led⟩ := bag_fresh (P := P) (w := w) keep0
  refine bag_loop ((Walks.tuple c3 (s.heap.objs.size + 1) l ne1 vs).toS) s.heap.objs.size notin ks many few vals s.heap keys (fresh _ (Nat.le_refl _)) (fun b hb => fresh b (by rw [List.mem_singleton.mp hb]; exact Nat.le_succ _)) hu (vs.size - 0) 0 _ (by omega) (Nat.zero_le _) ⟨iter, ist1.at fun o e => Heap.get?_push_of_some _ e⟩
    ⟨fun b o e => Heap.get?_push_of_some _ (Heap.get?_push_of_some _ e), [], es, ep, t, ⟨here, ents, tab, dist, fun p hp => (by cases hp), gap, led⟩, fun p hp => (by cases hp), fun p hp => (by cases hp), Nat.le_refl _⟩ fun s2 mv md => fin s2 ?_
  obtain ⟨g, gs, dr, tk, os⟩ := s2
  obtain rfl : gs = s.gens := mv.gens
  obtain rfl : dr = s.drawn := mv.drawn
  obtain rfl : os = s.os := mv.os
  rw [many] at md
  exact ⟨g, tk, rfl, md⟩
/-- set(x) -/
theorem set_of_tuple {l : Addr} {vs : Array Value} {ks : List (Addr × List Key)} {Q : Value → Shared → Prop} (calm : A.handled = none) (hu : A.units + 4 < cLine) (ist : s.heap.IsTuple l vs) (are : vs.toList = ks.map fun p => Value.ref p.1) (few : ks.length ≤ 16) (keys : ∀ p ∈ ks, Ky P w s.heap p.2 p.1)
    (fin : ∀ s2, BagHas P w s ks s2 → Q (.ref s.heap.objs.size) s2) : wpAny (model P w) A (call (.type "set") [.ref l]) Q E s := by
  have f1 := F.called_set.made
  have f2 := F.called_set.sub
  have f3 := F.called_set.notType
  have f4 := F.called_set.canCreate
  have f5 := F.typeCall_set_1 (.ref l)
  obtain ⟨c0, tl0, f6⟩ := F.called_set.mro
  refine wpAny_call (codeAny_of_tree (show wpAny _ _ (callAny (.type "set") _) _ _ _ from wpAny_pure ⟨Code.quiet_builtin _ (by decide +kernel), codeAny_builtin F.entry_type_call ?_⟩))
  rw [Around.under_plain (weight_type_call_type "set" [.ref l] []) rfl]
  repeat (any_goals (first | assumption | wp_step))
  refine codeAny_mono (code_set_led1 (.ref l) (E := E) (Q₁ := fun v s1 => v = .ref s.heap.objs.size ∧ s1 = { s with heap := s.heap.push (Ca.eSet w) }) ⟨rfl, rfl⟩) fun r s1 hr => ?_
  match r, hr with
  | .error e, hr => exact hr
  | .ok (.ret v), hr =>
    obtain ⟨ev, es⟩ := hr
    subst ev es
    have at0 : (s.heap.push (Ca.eSet w)).get? s.heap.objs.size = some (Ca.eSet w) := Heap.get?_push_size _ rfl
    have ty0 : Shared.TypeIs { s with heap := s.heap.push (Ca.eSet w) } (.ref s.heap.objs.size) "set" := ⟨_, at0, rfl⟩
    have f7 := F.called_set.init.lookup
    have f8 := F.called_set.init.bind (.ref s.heap.objs.size)
    repeat (any_goals (first | assumption | wp_step))
    refine codeAny_mono (codeAny_call_builtin (R := wants (fun v s2 => v = .none ∧ BagHas P w s ks s2) E) F.called_set.init.plain F.entry_set_init (check_set_init_1 ty0 ?_)) fun r2 s2 hr2 => ?_
    · have ne : (Value.type "tuple" == Value.type "dict") = false := by decide
      have g1 := F.sub_tuple_set
      have g2 := F.sub_tuple_frozenset
      obtain ⟨ol, hol, hc, n, hd⟩ := id ist
      obtain ⟨oc, od, odt, osl⟩ := ol
      obtain rfl : oc = .type "tuple" := hc
      obtain rfl : odt = .seq vs n := hd
      have atl : (s.heap.push (Ca.eSet w)).get? l = some { cls := .type "tuple", dict := od, data := .seq vs n, slots := osl } := Heap.get?_push_of_some _ hol
      (unfold Builtin.«set.__init__»; unfold noKeywords; unfold Builtin.Frozenset.updateFrom)
      generalize ei : pyIter = IT
      wp_walk
      subst ei
      have ist1 : (s.heap.push (Ca.eSet w)).IsTuple l vs := ⟨_, atl, rfl, n, rfl⟩
      refine wpAny_pyIter_tuple ist1 (wpAny_bind (wpAny_runValue ?_))
      have sz : (s.heap.push (Ca.eSet w)).objs.size = s.heap.objs.size + 1 := Heap.size_push ..
      rw [sz]
      refine fill_keys (by simp [calm]) ?_ ist are few keys fun s2 has => ?_
      · show A.units + 1 + 1 + 1 + 1 < cLine
        omega
      · exact wpAny_pure (wpAny_pure ⟨rfl, has⟩)
    · match r2, hr2 with
      | .error e, hr2 => exact hr2
      | .ok (.ret v2), hr2 =>
        obtain ⟨ev2, has⟩ := hr2
        subst ev2
        repeat (any_goals (first | assumption | wp_step))
        exact fin _ has
end
end TM

set_option maxHeartbeats 4000000
namespace TM
open PySem PySem.Spec PyProof.Rows L2
abbrev refK (p : Addr × List Key) : V := .ref p.1
section
variable {X : Cx}
/-- set(x), x a tuple of tuples of ints and texts -/
def rSetKy (K : PySem.W.Frag) (P : Program) (w : World) : List V → Hp → VK → Prop := fun xs H Q => ∃ (l : Addr) (ks : List (Addr × List Key)), xs = [.ref l] ∧ SqT K H l (ks.map refK) ∧ (∀ p ∈ ks, H p.1 = some (.tup (p.2.map kV))) ∧ ks.length ≤ 16 ∧
  ∀ D rs, H D = none → (∀ p ∈ rs, p ∈ ks) → (∀ p ∈ ks, p.2 ∈ rs.map Prod.snd) → (rs.map Prod.snd).Nodup → Q (.ref D) (upd H D (BagO P w D rs))
theorem refs_raw : ∀ {ks : List (Addr × List Key)} {us : List Value}, Vals (ks.map refK) us → us = ks.map fun p => Value.ref p.1
  | [], _, .nil => rfl
  | p :: ks, _, .cons r t => by
    cases r
    rw [List.map_cons, ← refs_raw t]
theorem cr_setKy (hc : X.calm = true) (hu : X.A.units + 64 < cLine) : CallR X (.type "set") (rSetKy X.K X.prog X.w) := by
  rintro pins s σ H xs us Q I r ⟨l, ks, rfl, hl, hk, few, q⟩
  rw [Vals.ref1 r]
  obtain ⟨its, rv, ist, _⟩ := I.tuple hl
  have fresh : H s.heap.objs.size = none := I.hok.fresh (Nat.le_refl _)
  refine set_of_tuple (P := X.prog) (w := X.w) (ks := ks) (I.ok.hd hc) (by omega) ist (by simpa using refs_raw rv) few (fun p hp => key_of I.hok (hk p hp)) fun s2 has => ?_
  obtain ⟨g, tk, rfl, old, rs, es, ep, t, B, fl⟩ := has
  have all := fl.has
  rw [List.take_length] at all
  exact ⟨.ref s.heap.objs.size, upd H s.heap.objs.size (BagO X.prog X.w s.heap.objs.size rs), I.laid (t' := tk) old (Nat.le_refl _) (bag_new B.bare), rfl, q _ rs fresh fl.of all B.dist⟩
/-- sorted(set), as the data lie in order -/
def rSortKy (P : Program) (w : World) : List V → Hp → VK → Prop := fun xs H Q => ∃ (a : Addr) (rs : List (Addr × List Key)) (dat : Addr × List Key → PyData), xs = [.ref a] ∧ H a = some (BagO P w a rs) ∧ (∀ p ∈ rs, H p.1 = some (.tup (p.2.map kV))) ∧ (∀ p ∈ rs, Ca.Rp H (.ref p.1) (dat p)) ∧ rs.length ≤ 16 ∧
  PySem.W.AllAlike (rs.map dat) ∧ PySem.W.Sortable (rs.map dat) ∧ (∀ p ∈ rs, (dat p).depth ≤ 60) ∧
  ∀ (rs' : List (Addr × List Key)) (p : Addr), rs'.Perm rs → H p = none → Q (.ref p) (upd H p (.lst ((Ca.sortD (rs'.map fun r => (refK r, dat r))).map Prod.fst)))
theorem vals_refs : ∀ ks : List (Addr × List Key), Vals (ks.map refK) (ks.map fun p => Value.ref p.1)
  | [] => .nil
  | p :: ks => .cons rfl (vals_refs ks)
theorem cr_sortKy {k : Nat} (sm : ∃ o, X.K.lookup sysModules = some o) (hr : Room k X.A) (hc : X.calm = true) : CallR X (.builtin "sorted") (rSortKy X.prog X.w) := by
  rintro pins s σ H xs us Q I r ⟨a, rs, dat, rfl, ha, hk, hrp, few, hal, hso, hdp, q⟩
  have hu : X.A.units + 64 < cLine := hr.units
  rw [Vals.ref1 r]
  obtain ⟨es, ep, t, ⟨o, at_, ex, sd⟩, ents, tab, dist, gap, led⟩ := (show Bag0 X.prog X.w s.heap a rs from (I.hok a _ ha).1)
  have ln := ents_len ents
  have sz := tab.sz
  rw [List.length_map] at sz
  refine Calls.call_function_entry kind_sorted plain_sorted entry_sorted (args_sorted1 _) ?_
  unfold Builtin.«sorted»
  refine wpAny_bind (m := checkCount "sorted" 1 1 _) (wpAny_pure (wpAny_bind (collect_set (A := X.A.in1) (I.ok.hd hc) ⟨o, at_, ex.1, sd⟩ (fits_of (by omega) tab.dm (by omega)) (by unfold scanBound; omega) tab.ris led fun s1 vs kp big gs os pm => ?_)))
  -- the values, in some order
  have ev : es.toList.map (·.2) = rs.map fun p => Value.ref p.1 := by
    rw [ents, List.map_map]
    rfl
  rw [ev] at pm
  obtain ⟨js, pj, rfl⟩ := L2.perm_lift (fun p : Addr × List Key => Value.ref p.1) pm rs rfl
  have lj : js.length = rs.length := pj.length_eq
  refine wpAny_bind (wpAny_newList ?_ (by rw [sizeLine_eq, List.length_map]; omega))
  have hL : (s1.heap.push (seqObj "list" (js.map fun p => Value.ref p.1).toArray 0)).get? s1.heap.objs.size = some (seqObj "list" (js.map fun p => Value.ref p.1).toArray 0) := Heap.get?_push_size _ rfl
  have up : ∀ b o, s.heap.get? b = some o → (s1.heap.push (seqObj "list" (js.map fun p => Value.ref p.1).toArray 0)).get? b = some o := fun b o e => Heap.get?_push_of_some _ (kp b o e)
  have rv : Vals ((js.map fun p => (refK p, dat p)).map Prod.fst) (js.map fun p => Value.ref p.1) := by
    rw [List.map_map]
    exact vals_refs js
  have er := Ca.each_rd (l := s1.heap.objs.size) I sm big up (bs := js.map fun p => (refK p, dat p)) (fun b hb => by
    obtain ⟨p, hp, rfl⟩ := (List.mem_map).mp hb
    exact hrp p (pj.mem_iff.mp hp)) rv
  have dats : (js.map fun p => (refK p, dat p)).map Prod.snd = js.map dat := by
    rw [List.map_map]
    rfl
  have memD : ∀ d ∈ js.map dat, d ∈ rs.map dat := fun d hd => (pj.map dat).mem_iff.mp hd
  show wpAny (model X.prog X.w) X.A.in1 _ _ _ { s1 with heap := s1.heap.push (seqObj "list" (js.map fun p => Value.ref p.1).toArray 0) }
  refine wpAny_bind (wpAny_holding (PySem.W.list_sort_data (bs := js.map fun p => (refK p, dat p)) (enc := Prod.snd) (R := fun (u : Value) (b : V × PyData) => RelV b.1 u) (vs := js.map fun p => Value.ref p.1) (n := 0) hL (Ca.each_of rv) er
    (by rw [dats]; exact fun d hd d' hd' => hal d (memD d hd) d' (memD d' hd')) ?_ (by rw [List.length_map, sizeLine_eq]; omega) (fun b hb => ?_) fun out ho1 ho2 => wpAny_pure ⟨_, rfl, ?_⟩))
  · rw [dats]
    exact hso.imp (fun h d hd => h d (memD d hd)) fun h d hd => h d (memD d hd)
  · obtain ⟨p, hp, rfl⟩ := (List.mem_map).mp hb
    have z := hdp p (pj.mem_iff.mp hp)
    show X.A.units + 1 + 1 + (dat p).depth < cLine
    omega
  · have vo := Ca.of_each ho2
    have hn : H s1.heap.objs.size = none := I.hok.fresh big
    have old : ∀ b o, s.heap.get? b = some o → (sortedHeap (s1.heap.push (seqObj "list" (js.map fun p => Value.ref p.1).toArray 0)) s1.heap.objs.size (js.map fun p => Value.ref p.1) out.toArray).get? b = some o := fun b o e => by
      have lt := Heap.lt_size (kp b o e)
      rw [sortedHeap_old (Nat.ne_of_lt lt) (by rw [size_push']; exact Nat.lt_succ_of_lt lt)]
      exact up b o e
    obtain ⟨c, hat⟩ := sortedHeap_at (out := out.toArray) hL
    have lo : ((Ca.sortD (js.map fun p => (refK p, dat p))).map Prod.fst).length ≤ sizeLine := by
      unfold Ca.sortD
      rw [List.length_map, List.length_mergeSort, List.length_map, sizeLine_eq]
      omega
    exact ⟨.ref s1.heap.objs.size, upd H s1.heap.objs.size (.lst ((Ca.sortD (js.map fun p => (refK p, dat p))).map Prod.fst)),
      I.call' (ch := []) os (Un.laid old big hn) (I.hok.laid old big ⟨lo, out, c, vo, hat⟩) (by show AllBare s1.gens; rw [gs]; exact I.bare) (fun _ z => nomatch z), rfl, q js _ pj hn⟩
end
end TM

set_option maxHeartbeats 1000000
namespace TM
open PySem PySem.Spec PyProof.Rows L2
section
variable {X : Cx}
/-- a tuple of ints and texts put into a set -/
theorem in_key {pins : List (Addr × Obj)} {σ : L2.St} {H : Hp} {s : Shared} {E : Value → Shared → Prop} {D x : Addr} {k : List Key} {rs : List (Addr × List Key)} {u : Value} {Q : Shared → Prop} (I : Inv X pins σ H s) (hu : X.A.units < cLine)
    (hD : H D = some (BagO X.prog X.w D rs)) (few : rs.length ≤ 16) (hx : H x = some (.tup (k.map kV))) (hr : ∀ r ∈ rs, H r.1 = some (.tup (r.2.map kV))) (ru : RelV (.ref x) u)
    (q : ∀ rs' s', (k ∈ rs.map Prod.snd → rs' = rs) → (k ∉ rs.map Prod.snd → rs'.Perm ((x, k) :: rs)) → Inv X pins σ (upd H D (BagO X.prog X.w D rs')) s' → Q s') : wpAny (model X.prog X.w) X.A (setAdd D u) (fun _ s' => Q s') E s := by
  cases ru
  obtain ⟨es, ep, t, ⟨o, oat, oex, od⟩, he, ht, hn, hg, hl⟩ := (show Bag0 X.prog X.w s.heap D rs from (I.hok D _ hD).1)
  have kx : Ky X.prog X.w s.heap k x := key_of I.hok hx
  have B : Bag X.prog X.w s.heap D rs es ep t := ⟨⟨o, oat, oex, od⟩, he, ht, hn, fun p hp => key_of I.hok (hr p hp), hg, hl⟩
  unfold setAdd
  refine wpAny_holding (wpAny_bind (wpAny_pyHash_tuple hu kx ?_))
  refine adds (s := { s with toks := s.toks + (k.length + 1) }) B kx hu few fun b h' rs' es' ep' t' sb B' c1 c2 => ?_
  refine q rs' _ c1 c2 ?_
  obtain ⟨o', oat', _⟩ := B'.here
  exact I.write (e := D) (t' := s.toks + (k.length + 1)) (by rw [hD]; trivial) (.inl rfl) (fun b u hb e => (sb.2 b hb).trans e) ⟨o', oat'⟩ (bag_new B'.bare)
/-- {a, b}, both tuples of ints and texts -/
def tSet2 (P : Program) (w : World) (ta tb : TE) : TE := fun σ H Q => ∀ D, H D = none → ta σ (upd H D (BagO P w D [])) fun x H1 => tb σ H1 fun y H2 => ∃ (a b : Addr) (k l : List Key), x = .ref a ∧ y = .ref b ∧ H2 a = some (.tup (k.map kV)) ∧ H2 b = some (.tup (l.map kV)) ∧ H2 D = some (BagO P w D []) ∧
  ∀ rs, (l = k → rs = [(a, k)]) → (l ≠ k → rs.Perm [(b, l), (a, k)]) → Q (.ref D) (upd H2 D (BagO P w D rs))
theorem pe_set2 {a b : Expr} {pos : Pos} {ta tb : TE} (hu : X.A.units < cLine) (hc : PySem.W.kdsCode X.K X.env.code = true) (ha : PE X a ta) (hb : PE X b tb) (hs : [a, b].all PySem.W.kdsPlain = true := by rfl) (hroad : displayRoad 0 [a, b] = .oneByOne := by rfl) :
    PE X (.Set [a, b] 0 pos) (tSet2 X.prog X.w ta tb) := by
  refine ⟨fun pins s σ H Q I h => ?_⟩
  rw [arm_eval_Set]
  refine wpAny_bind (wpAny_standAt (wpAny_bind (PySem.W.kds_main I.kIn hc fun fs => ?_)))
  rw [PySem.W.kds_star [a, b] hs, List.map_map, hroad]
  unfold setDisplay
  try dsimp only
  rw [if_neg (by decide)]
  refine wpAny_bind (PpSet.newSet_ok ?_)
  dsimp only
  generalize hD : s.heap.objs.size = D
  have nD : H D = none := I.hok.fresh (Nat.le_of_eq hD)
  have I1 : Inv X pins σ (upd H D (BagO X.prog X.w D [])) { s with heap := s.heap.push (Ca.eSet X.w) } := by
    subst hD
    exact I.laid (t' := s.toks) (fun b o e => Heap.get?_push_of_some _ e) (Nat.le_refl _) (bag_new (bag_fresh (Heap.get?_push_size _ rfl)))
  refine wpAny_bind (wpAny_holding (wpAny_bind (wpAny_mono (Q := fun vs s' => PySem.W.KdsFill (model X.prog X.w) X.A X.xe false D (EP X pins σ Q) vs s') ?_ (fun vs s' h' => ?_) fun _ _ z => z)))
  · refine PySem.W.kds_all pos [a, b] _ _ ?_
    refine thn (ha.run pins _ σ _ _ I1 (h D nD)) fun v s2 h2 => ?_
    obtain ⟨x, H2, I2, rx, q2⟩ := h2
    refine thn (hb.run pins _ σ _ _ I2 q2) fun u s3 h3 => ?_
    obtain ⟨y, H3, I3, ry, a', b', k, l, rfl, rfl, hk, hl, hD3, q⟩ := h3
    refine in_key I3 hu hD3 (Nat.zero_le _) hk (fun r z => nomatch z) rx fun rs1 s4 c1 c2 I4 => ?_
    obtain rfl : rs1 = [(a', k)] := List.perm_singleton.mp (c2 (by simp))
    have ne : ∀ {z : Addr} {m : List V}, H3 z = some (.tup m) → z ≠ D := fun e n => by
      rw [n, hD3] at e
      cases e
    refine in_key I4 hu upd_same (by show 1 ≤ 16; decide) (by rw [upd_ne (ne hl)]; exact hl) (fun r z => by rw [List.mem_singleton.mp z, upd_ne (ne hk)]; exact hk) ry fun rs2 s5 c3 c4 I5 => ?_
    rw [upd_upd] at I5
    exact ⟨.ref D, _, I5, rfl, q rs2 (fun e => c3 (by rw [e]; simp)) fun e => c4 (by simpa using e)⟩
  · refine wpAny_bind (wpAny_holding ?_)
    refine wpAny_bind (wpAny_mono (PySem.W.kds_for (fun x P s hx => ?_) vs s' h') (fun _ s1 h1 => ?_) fun _ _ z => z)
    · refine wpAny_bind (wpAny_mono hx (fun _ s2 h2 => ?_) fun _ _ z => z)
      first | exact wpAny_pure (And.intro rfl h2) | exact wpAny_bind (wpAny_pure (wpAny_pure (And.intro rfl h2)))
    · have h2 : EP X pins σ Q (.ref D) s1 := by simpa [PySem.W.KdsFill] using h1
      rw [if_neg (by decide)]
      refine wpAny_pure ?_
      show wpAny _ _ (forIn [] _ _ >>= _) _ _ _
      rw [List.forIn_nil]
      refine wpAny_pure ?_
      exact wpAny_pure h2
end
theorem kds_of {K : PySem.W.Frag} {cd : Value} {q : Str} (h : PySem.W.codeIn K cd q = true) : PySem.W.kdsCode K cd = true := by
  unfold PySem.W.codeIn at h
  unfold PySem.W.kdsCode
  cases cd with
  | ref c =>
    simp only at h ⊢
    split at h
    · rename_i e
      rw [e]
    · cases h
  | _ => cases h
/-- a def's promise, where its code object is named -/
theorem okC {P : Program} {w : World} {K : PySem.W.Frag} {mg : Str → Option Value} {base : Heap} {CX : CXT} {N ps : List Str} {k : Nat} {sp : Sp} {x qual : Str} {params : Arguments} {body : List Stmt} {scope : Scope} {dvs : List V} {kws : List (Str × V)} {f : Addr} {fd : FuncData} (F : FunD K x qual params body scope dvs kws f fd) (S : FnScope N ps scope) (len : ∀ us H Q E, sp us H Q E → us.length = ps.length)
    (hbody : ∀ (cdv : Value) (A : Around) (outer : List Env) (s : Shared) (H : Hp) (vs : List V) (Q : VK) (E : XK), PySem.W.kdsCode K cdv = true → Room k (A.deeper (envOfC qual scope s.heap.objs.size f cdv)) → sp vs H Q E →
      ∃ t, PSs (cxOf CX P w K mg base N qual scope f cdv A outer s H E) body t ∧ t { rt := Q, nx := fun _ H' => Q .non H' } (start N vs) H) : FnOk P w K mg base CX (k + 1) f fd ps sp := by
  obtain ⟨_, _, _, _, _, _, _, cdv, _, _, rfl, lk, hcd, _, _⟩ := F.ex
  exact fn_of lk hcd S len fun A outer s H us Q E hr hsp => hbody cdv A outer s H us Q E (kds_of hcd) hr hsp
end TM

set_option maxHeartbeats 1000000
namespace Q
open PySem PySem.Spec PyProof.Rows L2 Ca TM
/-! ### mirrored_keys -/
abbrev s_mky : Stmt := top 47
abbrev n_mky : List PySem.Str := ["kind", "left", "right"]
theorem sc_mky : FnScope n_mky ["kind", "left", "right"] (defScope s_mky) := ⟨rfl, rfl, rfl, by decide +kernel, rfl, by decide +kernel, by decide +kernel⟩
def keyK (q : Ky) : List Key := [.inr q.k, .inl q.l, .inl q.r]
def kKy : List Key → Ky
  | [.inr k, .inl l, .inl r] => ⟨k, l, r⟩
  | _ => ⟨"", 0, 0⟩
theorem key_inj {q r : Ky} (h : keyK q = keyK r) : q = r := by
  obtain ⟨a, b, c⟩ := q
  obtain ⟨a', b', c'⟩ := r
  simp only [keyK, List.cons.injEq, Sum.inr.injEq, Sum.inl.injEq, and_true] at h
  obtain ⟨rfl, rfl, rfl⟩ := h
  rfl
theorem kys_alike (qs : List Ky) : PySem.W.AllAlike (qs.map kyD) := fun x hx y hy => by
  obtain ⟨a, _, rfl⟩ := (List.mem_map (l := qs)).mp hx
  obtain ⟨b, _, rfl⟩ := (List.mem_map (l := qs)).mp hy
  simp [kyD, PySem.W.alike, PySem.W.alikeAll]
theorem kys_sortable (qs : List Ky) : PySem.W.Sortable (qs.map kyD) := .inl fun d hd => by
  obtain ⟨a, _, rfl⟩ := (List.mem_map (l := qs)).mp hd
  exact ⟨_, _, rfl⟩
theorem key_tup {S : Addr → Bool} {H : Hp} {v : V} {q : Ky} (r : Rp (offS S H) v (kyD q)) : ∃ a, v = .ref a ∧ H a = some (.tup ((keyK q).map kV)) ∧ S a = false := by
  obtain ⟨a, xs, rfl, _, rx⟩ := rp_tup (S := fun _ => false) (H := offS S H) (ds := [.str q.k, .int q.l, .int q.r]) (by
    have e : offS (fun _ => false) (offS S H) = offS S H := by
      funext x
      simp [offS]
    rw [e]
    exact r)
  obtain ⟨w1, w2, w3, rfl, r1, r2, r3⟩ := rpa3 rx
  cases r1
  cases r2
  cases r3
  cases r with
  | tup ha rr =>
    have h2 := offS_same _ _ ha
    obtain ⟨u1, u2, u3, rfl, t1, t2, t3⟩ := rpa3 rr
    cases t1
    cases t2
    cases t3
    refine ⟨a, rfl, h2, ?_⟩
    cases z : S a with
    | false => rfl
    | true =>
      unfold offS at ha
      rw [if_pos z] at ha
      cases ha
/-- sorted({q, its mirror image}) -/
theorem e_sortSet2 {P : Program} {w : World} {σ : L2.St} {F : Hp} {ta tb : TE} {q : Ky} (ha : EvD ta σ F (kyD q)) (hb : EvD tb σ F (kyD (mir q))) : EvP (tCB (rSortKy P w) (tCons (tSet2 P w ta tb) tNil)) σ F (fun H v => ∃ qs : List Ky, qs.Perm (kfOf 1 q) ∧ Rp H v (.list (qs.map kyD))) := fun S H1 f s Q k D hD => by
  have s1 := same_new (o := BagO P w D []) hD
  have f1 := f.mono s1
  refine ha S _ f1 (s.trans (offS_mono s1)) _ fun v H2 s2 r => ?_
  refine hb S _ (f1.mono s2) (s.trans (offS_mono (s1.trans s2))) _ fun u H3 s3 r2 => ?_
  have f3 := f1.mono (s2.trans s3)
  obtain ⟨a, rfl, ea, na⟩ := key_tup (r.mono (offS_mono (S := S) s3))
  obtain ⟨b, rfl, eb, nb⟩ := key_tup r2
  have r := r.mono (offS_mono (S := S) s3)
  have hD3 : H3 D = some (BagO P w D []) := s3 _ _ (s2 _ _ upd_same)
  refine ⟨a, b, keyK q, keyK (mir q), rfl, rfl, ea, eb, hD3, fun rs c1 c2 => ?_⟩
  have ne : ∀ {z : Addr} {m : List V}, H3 z = some (.tup m) → z ≠ D := fun e n => by
    rw [n, hD3] at e
    cases e
  have s4 : Same H1 (upd H3 D (BagO P w D rs)) := fun x o e => by
    by_cases n : x = D
    · rw [n, hD] at e
      cases e
    · rw [upd_ne n]
      exact s3 _ _ (s2 _ _ (s1 _ _ e))
  have f4 := f.mono s4
  have at_ : ∀ p ∈ rs, p = (a, keyK q) ∨ p = (b, keyK (mir q)) := fun p hp => by
    by_cases e : keyK (mir q) = keyK q
    · rw [c1 e] at hp
      exact .inl (List.mem_singleton.mp hp)
    · rcases List.mem_cons.mp ((c2 e).mem_iff.mp hp) with z | z
      · exact .inr z
      · exact .inl ((List.mem_singleton (b := (a, keyK q))).mp z)
  have pm : (rs.map fun p => kKy p.2).Perm (kfOf 1 q) := by
    unfold kfOf
    rw [if_pos (by decide)]
    by_cases e : keyK (mir q) = keyK q
    · rw [c1 e, if_pos (key_inj e).symm]
      exact .refl _
    · rw [if_neg fun z => e (by rw [← z])]
      exact ((c2 e).map _).trans (List.Perm.swap _ _ _)
  have tO : ∀ p ∈ rs, upd H3 D (BagO P w D rs) p.1 = some (.tup (p.2.map kV)) ∧ S p.1 = false := fun p hp => by
    rcases at_ p hp with rfl | rfl
    · exact ⟨by rw [upd_ne (ne ea)]; exact ea, na⟩
    · exact ⟨by rw [upd_ne (ne eb)]; exact eb, nb⟩
  have rO : ∀ p ∈ rs, Rp (offS S (upd H3 D (BagO P w D rs))) (.ref p.1) (kyD (kKy p.2)) := fun p hp => by
    obtain ⟨e, n⟩ := tO p hp
    rcases at_ p hp with rfl | rfl <;> exact .tup (by rw [offS_at n]; exact e) (.cons (.str _) (.cons (.int _) (.cons (.int _) .nil)))
  have few : rs.length ≤ 2 := by
    have := pm.length_eq
    have := kf_len 1 q
    rw [List.length_map] at *
    omega
  have dm : ∀ js : List (Addr × List Key), js.map (fun p => kyD (kKy p.2)) = (js.map fun p => kKy p.2).map kyD := fun js => by
    rw [List.map_map]
    rfl
  refine ⟨D, rs, fun p => kyD (kKy p.2), rfl, upd_same, fun p hp => (tO p hp).1, fun p hp => (rO p hp).mono offS_same, by omega, ?_, ?_, fun p _ => by simp [kyD, PyData.depth, PyData.depthAll], fun js c pj hc => ?_⟩
  · rw [dm]
    exact kys_alike _
  · rw [dm]
    exact kys_sortable _
  · have sn := same_new (o := .lst ((sortD (js.map fun r => (refK r, kyD (kKy r.2)))).map Prod.fst)) hc
    obtain ⟨zs, pz, ez⟩ := L2.perm_lift (fun r : Addr × List Key => (refK r, kyD (kKy r.2))) (List.mergeSort_perm (js.map fun r => (refK r, kyD (kKy r.2))) (PySem.W.dataLe false Prod.snd)) js rfl
    refine k _ _ (s4.trans sn) ⟨zs.map fun p => kKy p.2, ((pz.trans pj).map _).trans pm, .lst (by rw [offS_at (f4.new hc), upd_same]) ?_⟩
    refine RpA.mono (offS_mono sn) ?_
    show RpA _ (List.map Prod.fst ((List.map (fun r => (refK r, kyD (kKy r.2))) js).mergeSort (PySem.W.dataLe false Prod.snd))) _
    rw [← ez, List.map_map, ← dm]
    have := unzipV (H := offS S (upd H3 D (BagO P w D rs))) (bs := zs.map fun r => (refK r, kyD (kKy r.2))) fun b hb => by
      obtain ⟨r, hr, rfl⟩ := (List.mem_map (l := zs)).mp hb
      exact rO r ((pz.trans pj).mem_iff.mp hr)
    rw [List.map_map, List.map_map] at this
    exact this
def IMk : Hp → List V → (Hp → V → Prop) → Prop := fun F vs P => ∃ (v1 v2 v3 : V) (q : Ky), vs = [v1, v2, v3] ∧ Rp F v1 (.str q.k) ∧ Rp F v2 (.int q.l) ∧ Rp F v3 (.int q.r) ∧ P = fun H v => ∃ qs : List Ky, qs.Perm (kfOf 1 q) ∧ Rp H v (.list (qs.map kyD))
section
variable {P : Program} {w : World} {K : PySem.W.Frag} {mg : PySem.Str → Option Value} {base : Heap}
theorem ok_mky {f : Addr} {fd : FuncData} (F : FnP K "mirrored_keys" s_mky f fd) (T : Tx K mg) : FnOk P w K mg base CX0 3 f fd ["kind", "left", "right"] (spQ IMk) := by
  refine okC F sc_mky (spQ_len (by rintro _ _ _ ⟨v1, v2, v3, q, rfl, _⟩; rfl)) (fun cdv A outer s H vs Q E hc hr h => ?_)
  obtain ⟨S, P0, fr, ⟨v1, v2, v3, q, rfl, r1, r2, r3, rfl⟩, k⟩ := h
  refine ⟨_, PSs.nox (pss_one (ps_ret (pe_callB (cr_sortKy T.sm hr rfl) (by rfl) T.sorted bSorted (pa_cons (pe_set2 (Nat.lt_of_le_of_lt (Nat.le_add_right _ 64) hr.units) hc (pe_tup (pa_cons (pv 0) (pa_cons (pv 1) (pa_cons (pv 2) pa_nil)))) (pe_tup (pa_cons (pv 0) (pa_cons (pv 2) (pa_cons (pv 1) pa_nil))))) pa_nil)))), ?_⟩
  exact go_ret fr (e_sortSet2 (e_tup (a_cons (e_var rfl r1) (a_cons (e_var rfl r2) (a_cons (e_var rfl r3) a_nil)))) (e_tup (a_cons (e_var rfl r1) (a_cons (e_var rfl r3) (a_cons (e_var rfl r2) a_nil))))) k
end
/-! ### check_mirrored -/
abbrev s_cmi : Stmt := top 46
abbrev n_cmi : List PySem.Str := ["table", "kind", "left", "right", "often"]
theorem sc_cmi : FnScope n_cmi ["table"] (defScope s_cmi) := ⟨rfl, rfl, rfl, by decide +kernel, rfl, by decide +kernel, by decide +kernel⟩
def mirB (ks : List Ro) : Bool := ks.all fun a => decide (cnt ks (kOf a.k a.r a.l) = a.n)
def spCmi (CT NM : Addr) : Sp := fun vs H Q E => ∃ (S : Addr → Bool) (v : V) (ks : List Ro), vs = [v] ∧ Fr S H ∧ TV CT ks (offS S H) v ∧ GoodT ks ∧ (mirB ks = false → ∀ H', Same H H' → E (.ref NM) none H') ∧ (mirB ks = true → ∀ H', Same H H' → Q .non H')
section
variable {P : Program} {w : World} {K : PySem.W.Frag} {mg : PySem.Str → Option Value} {base : Heap}
theorem ok_cmi {f CT N NM fG pR fA : Addr} {fd fdG fdA : FuncData} (F : FnP K "check_mirrored" s_cmi f fd) (T : Tx K mg) (XM : XT K mg "NotMirrored" NM) (TT2 : TT K mg CT N) (o : OwnIx K CT fG) (GG : FnOk P w K mg base CX0 4 fG fdG ["self", "at"] (spQ (IGet CT))) (bG : Binds K fdG ["self", "at"] [])
    (GR : FnOk P w K mg base CX0 1 fA fdA ["self"] (spQ (ITRows CT))) (bR : Binds K fdA ["self"] []) (hR : PropOf K CT "rows" pR fA) : FnOk P w K mg base (L2.CX P w) 6 f fd ["table"] (spCmi CT NM) := by
  refine F.ok sc_cmi (fun vs H Q E h => ?_) (fun cdv A outer s H vs Q E hr h => ?_)
  · obtain ⟨S, v, ks, rfl, _⟩ := h
    rfl
  obtain ⟨S, v, ks, rfl, fr, tv, gt, kE, kQ⟩ := h
  have lk := goodT_len gt
  obtain ⟨gk, _, _⟩ := are_good gt.a
  refine ⟨_, pss_one (ps_if (pt_not (pt_val (pe_callB (cr_all rfl : CallR _ _ (rAll K)) (by rfl) T.all bAll (pa_cons (pe_lc (own := [("kind", 1), ("left", 2), ("right", 3), ("often", 4)]) (g := gTup K 4 (gCons (gName 1) (gCons (gName 2) (gCons (gName 3) (gCons (gName 4) gNil))))) rfl sc_cmi.nd (pi_tupQ (K := K) rfl (pe_prop (pv 0) TT2.cl hR GR (hr.mono (by decide)) bR .nil pass0 rfl)) (blkOk_by (own := [("kind", 1), ("left", 2), ("right", 3), ("often", 4)]) (N := n_cmi) (sc := (defScope s_cmi)) (by decide +kernel)) (fun _ _ _ _ _ => (pg_tup (by rfl) (pgs_cons (pg_name (i := 1) sc_cmi.nd rfl (Or.inl rfl)) (pgs_cons (pg_name (i := 2) sc_cmi.nd rfl (Or.inl rfl)) (pgs_cons (pg_name (i := 3) sc_cmi.nd rfl (Or.inl rfl)) (pgs_cons (pg_name (i := 4) sc_cmi.nd rfl (Or.inl rfl)) pgs_nil)))))) (fun _ _ _ _ _ => pts_nil) (fun _ _ _ _ _ => (pe_cmpR op_eq (pe_ixO o GG bG (hr.mono (by decide)) pass0 (pv 0) (pe_tup (pa_cons (pv 1) (pa_cons (pv 3) (pa_cons (pv 2) pa_nil))))) (pv 4) (nomark _)))) pa_nil)))) (pss_one (ps_raise rfl (takes_of rfl rfl rfl rfl) (pmk_own PySem.F.excBase_ValueError XM.xN XM.gN XM.kN (raises_own XM.bN XM.tN) rfl))) pss_nil), ?_⟩
  refine go_if (b := !mirB ks) fr (b_not (b_val (eqD (e_all (K := K) (e_lcT (K := K) (enc := roD) (b := fun _ => true) (ev := fun a => .bool (decide (cnt ks (kOf a.k a.r a.l) = a.n))) (as := ks) (e_prop (e_varP (P := TV CT ks) rfl fun _ sm => tv.mono sm) tv_rows) (by omega) fun a ha x F2 sF r => g_tup4 r fun w1 w2 w3 w4 q1 q2 q3 q4 => ⟨rfl, b_yes, fun _ => e_eqI (e_ixO (e_varP (P := TV CT ks) rfl fun _ sm => (tv.mono sF).mono sm) (e_tup (a_cons (e_var rfl q1) (a_cons (e_var rfl q3) (a_cons (e_var rfl q2) a_nil)))) lk gk ?t1 (gk a ha).k) (e_var rfl q4)⟩) ?t2) ?t3))) (fun z H1 s1 f1 => ?_) fun z H1 s1 fr1 => ?_
  case t1 =>
    have g := gk a ha
    simp [isTri, keyD, isNum, g.k, g.l0, g.l9, g.r0, g.r9]
  case t2 =>
    intro d hd
    obtain ⟨a, _, rfl⟩ := (List.mem_map (l := _)).mp hd
    exact ⟨_, rfl⟩
  case t3 =>
    rw [filter_yes, List.all_map]
    rfl
  · exact kE (by simpa using z) H1 s1
  · exact kQ (by simpa using z) H1 s1
end
end Q

set_option maxHeartbeats 1000000
namespace Q
open PySem PySem.Spec PyProof.Rows L2 Ca
/-! ### reading methods of Mirrored -/
abbrev cM : Stmt := top 52
abbrev s_tabM : Stmt := inClass cM 1
abbrev n_tabM : List PySem.Str := ["self"]
theorem sc_tabM : FnScope n_tabM ["self"] (defScope s_tabM) := ⟨rfl, rfl, rfl, by decide +kernel, rfl, by decide +kernel, by decide +kernel⟩
abbrev s_qsM : Stmt := inClass cM 7
abbrev n_qsM : List PySem.Str := ["self"]
theorem sc_qsM : FnScope n_qsM ["self"] (defScope s_qsM) := ⟨rfl, rfl, rfl, by decide +kernel, rfl, by decide +kernel, by decide +kernel⟩
abbrev s_chM : Stmt := inClass cM 9
abbrev n_chM : List PySem.Str := ["self"]
theorem sc_chM : FnScope n_chM ["self"] (defScope s_chM) := ⟨rfl, rfl, rfl, by decide +kernel, rfl, by decide +kernel, by decide +kernel⟩
abbrev s_cntM : Stmt := inClass cM 8
abbrev n_cntM : List PySem.Str := ["self"]
theorem sc_cntM : FnScope n_cntM ["self"] (defScope s_cntM) := ⟨rfl, rfl, rfl, by decide +kernel, rfl, by decide +kernel, by decide +kernel⟩
abbrev s_lenM : Stmt := inClass cM 12
abbrev n_lenM : List PySem.Str := ["self"]
theorem sc_lenM : FnScope n_lenM ["self"] (defScope s_lenM) := ⟨rfl, rfl, rfl, by decide +kernel, rfl, by decide +kernel, by decide +kernel⟩
abbrev s_repM : Stmt := inClass cM 13
abbrev n_repM : List PySem.Str := ["self"]
theorem sc_repM : FnScope n_repM ["self"] (defScope s_repM) := ⟨rfl, rfl, rfl, by decide +kernel, rfl, by decide +kernel, by decide +kernel⟩
section
variable {P : Program} {w : World} {K : PySem.W.Frag} {mg : PySem.Str → Option Value} {base : Heap} {α : Type} {QP : α → Hp → V → Prop}
theorem ok_tabM {f CT CB : Addr} {fd : FuncData} (F : FnM K "table" "Mirrored.table" s_tabM f fd) (c : BCl K CB) (m : QMon QP) : FnOk P w K mg base CX0 1 f fd ["self"] (spQ (IBTab CT CB QP)) := by
  refine F.ok sc_tabM (spQ_len (by rintro _ _ _ ⟨v, b, p, cap, st, n, rfl, _⟩; rfl)) (fun cdv A outer s H vs Q E hr h => ?_)
  obtain ⟨S, P0, fr, ⟨v, b, p, cap, st, n, rfl, bv, rfl⟩, q⟩ := h
  refine ⟨_, PSs.nox (pss_one (ps_ret (pe_fld (pv 0) rfl))), ?_⟩
  exact go_ret (P := TV CT st.ks) fr (e_bHeld c (e_varP (P := BV CT CB QP b p cap st n) rfl fun _ s => bv.mono m s)) q
theorem ok_qsM {f CT CB : Addr} {fd : FuncData} (F : FnM K "questions" "Mirrored.questions" s_qsM f fd) (c : BCl K CB) (m : QMon QP) : FnOk P w K mg base CX0 1 f fd ["self"] (spQ (IBQs CT CB QP)) := by
  refine F.ok sc_qsM (spQ_len (by rintro _ _ _ ⟨v, b, p, cap, st, n, rfl, _⟩; rfl)) (fun cdv A outer s H vs Q E hr h => ?_)
  obtain ⟨S, P0, fr, ⟨v, b, p, cap, st, n, rfl, bv, rfl⟩, q⟩ := h
  refine ⟨_, PSs.nox (pss_one (ps_ret (pe_fld (pv 0) rfl))), ?_⟩
  exact go_ret (P := WV QP st.qs) fr (e_bWatched c (e_varP (P := BV CT CB QP b p cap st n) rfl fun _ s => bv.mono m s)) q
theorem ok_chM {f CT CB : Addr} {fd : FuncData} (F : FnM K "changes" "Mirrored.changes" s_chM f fd) (T : Tx K mg) (c : BCl K CB) (m : QMon QP) : FnOk P w K mg base CX0 1 f fd ["self"] (spQ (IBCh CT CB QP)) := by
  refine F.ok sc_chM (spQ_len (by rintro _ _ _ ⟨v, b, p, cap, st, n, rfl, _⟩; rfl)) (fun cdv A outer s H vs Q E hr h => ?_)
  obtain ⟨S, P0, fr, ⟨v, b, p, cap, st, n, rfl, bv, rfl⟩, q⟩ := h
  refine ⟨_, PSs.nox (pss_one (ps_ret (pe_callB (call_lenQ : CallR _ _ (rLenQ K)) (by rfl) T.len bLen (pa_cons (pe_fld (pv 0) rfl) pa_nil)))), ?_⟩
  exact go_ret (P := fun H v => Rp H v (.int (n : Int))) fr (e_lenLn (e_bPast c (e_varP (P := BV CT CB QP b p cap st n) rfl fun _ s => bv.mono m s))) q
theorem ok_cntM {cnt : α → List Ro → Int} {f CT CB : Addr} {fd : FuncData} (F : FnM K "counts" "Mirrored.counts" s_cntM f fd) (c : BCl K CB) (m : QMon QP) (D1 : Fd P w K mg base "counts_in" 8 ["table", "questions"] (spQ (ICin CT QP cnt))) : FnOk P w K mg base CX0 9 f fd ["self"] (spQ (IBCnt CT CB QP cnt)) := by
  obtain ⟨f1, fd1, G1, b1, k1, m1⟩ := D1.ex
  refine F.ok sc_cntM (spQ_len (by rintro _ _ _ ⟨v, b, p, cap, st, n, rfl, _⟩; rfl)) (fun cdv A outer s H vs Q E hr h => ?_)
  obtain ⟨S, P0, fr, ⟨v, b, p, cap, st, n, rfl, bv, rfl⟩, q⟩ := h
  refine ⟨_, PSs.nox (pss_one (ps_ret (pe_call G1 (hr.mono (by decide)) rfl m1 k1 b1 .nil pass0 (pa_cons (pe_fld (pv 0) rfl) (pa_cons (pe_fld (pv 0) rfl) pa_nil))))), ?_⟩
  have hv : ∀ {F'}, Same (offS S H) F' → EvP (tVar 0) [some v] F' (BV CT CB QP b p cap st n) := fun s => e_varP rfl fun _ s2 => bv.mono m (s.trans s2)
  refine go_ret (P := fun H v => Rp H v (.tuple (st.qs.map fun q => .int (cnt q st.ks)))) fr (e_callQ (ap_cons (e_bHeld c (hv (Same.refl _))) mon_tv (ap_cons (e_bWatched c (hv (Same.refl _))) (mon_wv m) ap_nil)) fun F vs r => ?_) q
  obtain ⟨x, y, rfl, h1, h2⟩ := psa2 r
  exact ⟨x, y, st.ks, st.qs, rfl, h1, bv.g, h2, rfl⟩
theorem ok_lenM {f CT CB N fL : Addr} {fd fdL : FuncData} (F : FnM K "__len__" "Mirrored.__len__" s_lenM f fd) (T : Tx K mg) (c : BCl K CB) (m : QMon QP)
    (hsL : PySem.W.findIn K (.ref CT) "__len__" = some (some (.ref fL))) (hfL : PySem.W.isFn K (.ref fL) = true) (GLen : FnOk P w K mg base CX0 1 fL fdL ["self"] (spQ (ITLen CT))) (bLen2 : Binds K fdL ["self"] []) : FnOk P w K mg base CX0 3 f fd ["self"] (spQ (IBLen CT CB QP)) := by
  refine F.ok sc_lenM (spQ_len (by rintro _ _ _ ⟨v, b, p, cap, st, n, rfl, _⟩; rfl)) (fun cdv A outer s H vs Q E hr h => ?_)
  obtain ⟨S, P0, fr, ⟨v, b, p, cap, st, n, rfl, bv, rfl⟩, q⟩ := h
  refine ⟨_, PSs.nox (pss_one (ps_ret (pe_callB (call_lenO hsL hfL GLen bLen2 (hr.mono (by decide)) : CallR _ _ (rLenO CT (spQ (ITLen CT)))) (by rfl) T.len bLen (pa_cons (pe_fld (pv 0) rfl) pa_nil)))), ?_⟩
  have lk := goodT_len bv.g
  exact go_ret (P := fun H v => Rp H v (.int (st.ks.length : Int))) fr (e_lenTab (e_bHeld c (e_varP (P := BV CT CB QP b p cap st n) rfl fun _ s => bv.mono m s)) (by omega)) q
theorem ok_repM {f CT CB N fL : Addr} {fd fdL : FuncData} (F : FnM K "__repr__" "Mirrored.__repr__" s_repM f fd) (T : Tx K mg) (c : BCl K CB) (m : QMon QP)
    (hsL : PySem.W.findIn K (.ref CT) "__len__" = some (some (.ref fL))) (hfL : PySem.W.isFn K (.ref fL) = true) (GLen : FnOk P w K mg base CX0 1 fL fdL ["self"] (spQ (ITLen CT))) (bLen2 : Binds K fdL ["self"] []) : FnOk P w K mg base CX0 3 f fd ["self"] (spQ (IBRep CT CB QP "Mirrored")) := by
  refine F.ok sc_repM (spQ_len (by rintro _ _ _ ⟨v, b, p, cap, st, n, rfl, _⟩; rfl)) (fun cdv A outer s H vs Q E hr h => ?_)
  obtain ⟨S, P0, fr, ⟨v, b, p, cap, st, n, rfl, bv, rfl⟩, q⟩ := h
  refine ⟨_, PSs.nox (pss_one (ps_ret (pe_joinedQ (.cons pe_str (.cons (pe_fmt (pe_callB (call_lenO hsL hfL GLen bLen2 (hr.mono (by decide)) : CallR _ _ (rLenO CT (spQ (ITLen CT)))) (by rfl) T.len bLen (pa_cons (pe_fld (pv 0) rfl) pa_nil))) (.cons pe_str .nil)))))), ?_⟩
  have lk := goodT_len bv.g
  have small : ∀ n : Nat, n ≤ 12 → ((n : Nat) : Int).natAbs.log2 < 1920 := by decide +kernel
  have lens12 : ∀ n : Nat, n ≤ 12 → lens [("Mirrored" : PySem.Str) ++ PySem.Str.ofString "(", PySem.Str.ofString (toString (n : Int)), PySem.Str.ofString " rows)"] ≤ 1000 := by decide +kernel
  refine go_ret (P := fun H v => Rp H v (.str (bsay "Mirrored" st.ks.length))) fr (e_joined (ys := [("Mirrored" : PySem.Str) ++ PySem.Str.ofString "(", PySem.Str.ofString (toString (st.ks.length : Int)), PySem.Str.ofString " rows)"]) (.cons e_str (.cons (e_fmtI (e_lenTab (e_bHeld c (e_varP (P := BV CT CB QP b p cap st n) rfl fun _ s => bv.mono m s)) (by omega)) (small _ lk)) (.cons e_str .nil))) (lens12 _ lk)) q
end
end Q

set_option maxHeartbeats 1000000
namespace Q
open PySem PySem.Spec PyProof.Rows L2 Ca
/-! ### Mirrored: what is its own -/
abbrev s_mput : Stmt := inClass cM 4
abbrev n_mput : List PySem.Str := ["self", "kind", "left", "right", "often"]
theorem sc_mput : FnScope n_mput ["self", "kind", "left", "right", "often"] (defScope s_mput) := ⟨rfl, rfl, rfl, by decide +kernel, rfl, by decide +kernel, by decide +kernel⟩
abbrev s_minit : Stmt := inClass cM 0
abbrev n_minit : List PySem.Str := ["self", "table"]
theorem sc_minit : SuX.SScope n_minit ["self", "table"] (defScope s_minit) := ⟨rfl, rfl, rfl, by decide +kernel, rfl, by decide +kernel, by decide +kernel, by decide +kernel, rfl, rfl⟩
abbrev s_masg : Stmt := inClass cM 3
abbrev n_masg : List PySem.Str := ["self", "table"]
theorem sc_masg : SuX.SScope n_masg ["self", "table"] (defScope s_masg) := ⟨rfl, rfl, rfl, by decide +kernel, rfl, by decide +kernel, by decide +kernel, by decide +kernel, rfl, rfl⟩
def miChk (NM : Addr) (chk : Option Int → List Ro → Option Addr) : Option Int → List Ro → Option Addr := fun cap ks => if mirB ks = true then chk cap ks else some NM
theorem mi_yes {NM : Addr} {chk : Option Int → List Ro → Option Addr} {cap : Option Int} {ks : List Ro} (h : mirB ks = false) : miChk NM chk cap ks = some NM := if_neg (by rw [h]; decide)
theorem mi_no {NM : Addr} {chk : Option Int → List Ro → Option Addr} {cap : Option Int} {ks : List Ro} (h : mirB ks = true) : miChk NM chk cap ks = chk cap ks := if_pos h
theorem mon_mk {q : Ky} : Mon fun H v => ∃ qs : List Ky, qs.Perm (kfOf 1 q) ∧ Rp H v (.list (qs.map kyD)) := fun _ _ _ sm ⟨qs, p, r⟩ => ⟨qs, p, r.mono sm⟩
section
variable {P : Program} {w : World} {K : PySem.W.Frag} {mg : PySem.Str → Option Value} {base : Heap} {α : Type} {QP : α → Hp → V → Prop}
/-- put(..) of one's own -/
theorem ok_mput {f fC fT fG CT CB NK NN NX : Addr} {fd fdC fdT fdG : FuncData} (F : FnM K "put" "Mirrored.put" s_mput f fd) (c : BCl K CB) (m : QMon QP)
    (GC : FnOk P w K mg base (L2.CX P w) 4 fC fdC ["kind", "left", "right", "often"] (spCkp NK NN)) (bC : Binds K fdC ["kind", "left", "right", "often"] []) (kC : PySem.W.keepIn K (.ref fC) = true) (gC : mg "check_put" = some (.ref fC))
    (GT : FnOk P w K mg base (L2.CX P w) 9 fT fdT ["table", "keys", "often"] (spTw CT NX)) (bT : Binds K fdT ["table", "keys", "often"] []) (kT : PySem.W.keepIn K (.ref fT) = true) (gT : mg "table_with" = some (.ref fT))
    (D_mk : Fd P w K mg base "mirrored_keys" 3 ["kind", "left", "right"] (spQ IMk))
    (MG : Meth K CB "change" fG) (GG : FnOk P w K mg base CX0 1 fG fdG ["self", "table", "questions"] (spChange CT CB QP)) (bG : Binds K fdG ["self", "table", "questions"] []) :
    FnOk P w K mg base (L2.CX P w) 10 f fd ["self", "kind", "left", "right", "often"] (spPut CT CB QP (kfOf 1) NK NN NX) := by
  obtain ⟨fM, fdM, GM, bM, kM, gM⟩ := D_mk.ex
  refine F.ok sc_mput (fun vs H Q E h => ?_) (fun cdv A outer s H vs Q E hr h => ?_)
  · obtain ⟨S, b, p, cap, st, past, v1, v2, v3, v4, d1, d2, d3, d4, rfl, _⟩ := h
    rfl
  obtain ⟨S, b, p, cap, st, past, v1, v2, v3, v4, d1, d2, d3, d4, rfl, fr, bd, l9, ra, kK, kN, kQ⟩ := h
  have pL := passes_call (X := cxOf (L2.CX P w) P w K mg base n_mput "Mirrored.put" (defScope s_mput) f cdv A outer s H E) (takes_of rfl rfl rfl rfl) (E := E) (fun _ _ _ _ h => h)
  refine ⟨_, pss_cons (ps_expr (pe_call GC (hr.mono (by decide)) rfl gC kC bC .nil pL (pa_cons (pv 1) (pa_cons (pv 2) (pa_cons (pv 3) (pa_cons (pv 4) pa_nil))))))
    (pss_one (ps_expr (pe_meth (pv 0) c.cl MG GG (hr.mono (by decide)) bG .nil pass0 (pa_cons (pe_call GT (hr.mono (by decide)) rfl gT kT bT .nil pL (pa_cons (pe_fld (pv 0) rfl) (pa_cons (pe_call GM (hr.mono (by decide)) rfl gM kM bM .nil pass0 (pa_cons (pv 1) (pa_cons (pv 2) (pa_cons (pv 3) pa_nil)))) (pa_cons (pv 4) pa_nil)))) (pa_cons (pe_fld (pv 0) rfl) pa_nil))))), ?_⟩
  refine ⟨v1, rfl, v2, rfl, v3, rfl, v4, rfl, S, v1, v2, v3, v4, d1, d2, d3, d4, rfl, fr, ra, kK, kN, fun z1 z2 H1 s1 => ?_⟩
  obtain ⟨q, rfl, rfl, rfl, gq⟩ := isTri_is z1
  obtain ⟨n, rfl, n0, n9⟩ := isNum_is z2
  obtain ⟨kX, kQ⟩ := kQ q n rfl rfl rfl rfl gq n0 n9
  have bd1 := bd.same m s1
  have fr1 := fr.mono s1
  have bv := bd1.read m
  obtain ⟨dx, t0, w0, xs, hb1, _⟩ := bd1.ex
  obtain ⟨r1, r2, r3, r4⟩ := rpv4 (ra.mono ((offS_mono (S := S) s1).trans (subS_off (b := b) (p := p))))
  refine ⟨.ref b, rfl, b, dx, _, rfl, hb1, bf_no _ _ _ _ (by decide +kernel), ?_⟩
  have hA : EvAP (tCons (tFld K (tVar 0) "held") (tCons (tCall (spQ IMk) [] E0 (tCons (tVar 1) (tCons (tVar 2) (tCons (tVar 3) tNil)))) (tCons (tVar 4) tNil))) [some (.ref b), some v1, some v2, some v3, some v4] (offS (subS S b p) H1) [TV CT st.ks, fun H v => ∃ qs : List Ky, qs.Perm (kfOf 1 q) ∧ Rp H v (.list (qs.map kyD)), fun H v => Rp H v (.int n)] :=
    ap_cons (e_bHeld c (e_varP rfl fun _ sm => bv.mono m sm)) mon_tv (ap_cons (e_callQ (ap_cons (e_var rfl r1) mon_d (ap_cons (e_var rfl r2) mon_d (ap_cons (e_var rfl r3) mon_d ap_nil))) (fun F vs r => by
      obtain ⟨x, y, z, rfl, h1, h2, h3⟩ := psa3 r
      exact ⟨x, y, z, q, rfl, h1, h2, h3, rfl⟩)) mon_mk (ap_cons (e_var rfl r4) mon_d ap_nil))
  change tCall (spTw CT NX) [] E (tCons _ (tCons _ (tCons (tVar 4) tNil))) _ H1 _
  refine hA (subS S b p) H1 (subS_fr fr1) (Same.refl _) _ fun vs H2 s2 r => ?_
  obtain ⟨x, y, z, rfl, h1, ⟨qs, pq, h2⟩, h3⟩ := psa3 r
  cases h3
  have gqs : ∀ r ∈ qs, GoodK r := fun r hr => kf_good gq r (pq.mem_iff.mp hr)
  have nqs : qs.Nodup := pq.nodup_iff.mpr (kf_nd 1 q)
  have lqs : qs.length ≤ 12 := by
    have := kf_len 1 q
    have := pq.length_eq
    omega
  have pk := twR_permK (ks := st.ks) (n := n) pq
  refine ⟨subS S b p, x, y, st.ks, qs, n, rfl, subS_fr (fr1.mono s2), h1, bd.g st (.head _), h2, lqs, gqs, nqs, n0, n9, fun l H3 s3 => kX (by rw [← pk.length_eq]; exact l) H3 ((s1.trans s2).trans s3), fun l ms es pm v5 H3 s3 tv5 => ?_⟩
  have s13 := s2.trans s3
  have bd3 := bd1.same m s13
  have fr3 := fr1.mono s13
  obtain ⟨dx3, t3, w3, xs3, hb3, hp3, tv3, wv3, _⟩ := id bd3.ex
  refine ⟨.ref b, rfl, b, CB, dx3, _, _, rfl, hb3, c.cl, c.nW, bf_watched _ _ _ _, ?_⟩
  have gm : GoodT ms := goodT_of ((twR_are (bd.g st (.head _)).a gqs nqs n9).mpr l) es pm
  exact ⟨S, b, p, cap, st, past, v5, w3, ms, st.qs, rfl, fr3, bd3, l9, (tv5.mono offS_same).off fr3, gm, wv3, fun H' kb bd' => kQ (by rw [← pk.length_eq]; exact l) ms ((srt_sameD pk).symm.trans es) (pm.trans pk) gm H' ((Kb.of (s1.trans s13)).trans kb) bd'⟩
theorem ok_masg {chk : Option Int → List Ro → Option Addr} {f fC fO g CT CB D N NT NO : Addr} {fd fdC fdO gd : FuncData} {file : PySem.Str} (F : SuX.FunS K "assign_table" "Mirrored.assign_table" (defArgs s_masg) (defBody s_masg) (defScope s_masg) [] file D f fd) (pf : SuX.PFile P file) (sk : SuX.SupK K mg CB D) (sm : SuX.SupM K CB D "assign_table" g) (c : BCl K CB) (m : QMon QP)
    (GC : FnOk P w K mg base (L2.CX P w) 1 fC fdC ["thing"] (spCk CT NT)) (bC : Binds K fdC ["thing"] []) (kC : PySem.W.keepIn K (.ref fC) = true) (gC : mg "check_table" = some (.ref fC))
    (GO : FnOk P w K mg base (L2.CX P w) 6 fO fdO ["table"] (spCmi CT NO)) (bO : Binds K fdO ["table"] []) (kO : PySem.W.keepIn K (.ref fO) = true) (gO : mg "check_mirrored" = some (.ref fO))
    {k : Nat} (k3 : 6 ≤ k) (G : FnOk P w K mg base (L2.CX P w) k g gd ["self", "table"] (spAsg CT CB QP NT AnyCap chk)) (bG : Binds K gd ["self", "table"] []) :
    FnOk P w K mg base (L2.CX P w) (k + 1) f fd ["self", "table"] (spAsg CT CB QP NT AnyCap (miChk NO chk)) := by
  refine SuX.fnS_of F pf sc_masg (hp0_of rfl rfl) (fun vs H Q E h => ?_) (fun cda cc A outer s H vs Q E hh hr h => ?_)
  · obtain ⟨S, b, p, cap, st, past, v, ks, is, rfl, _⟩ := h
    rfl
  obtain ⟨S, b, p, cap, st, past, v, ks, is, rfl, fr, bd, l9, _, hv, kE, kR, kQ⟩ := h
  have pL := passes_call (X := SuX.cxS (L2.CX P w) P w K mg base n_masg "Mirrored.assign_table" (defScope s_masg) f cda cc A outer s H E) (takes_of rfl rfl rfl rfl) (E := E) (fun _ _ _ _ h => h)
  refine ⟨_, SuX.pas_cons (SuX.pa1_of (ps_expr (pe_call GC (hr.mono (by omega)) rfl gC kC bC .nil pL (pa_cons (pv 1) pa_nil))))
    (SuX.pas_cons (SuX.pa1_of (ps_expr (pe_call GO (hr.mono (by omega)) rfl gO kO bO .nil pL (pa_cons (pv 1) pa_nil))))
      (SuX.pas_one (SuX.pa1_expr (SuX.px_sup sc_masg hh sk sm G hr bG .nil pL (pa_cons (pv 1) pa_nil) (fun I hb h => SuX.cw_args sm.fi (by rfl) (by rfl) I hb h))))), ?_⟩
  refine ⟨v, rfl, S, v, is, rfl, fr, ?_, kE, fun z H1 s1 => ?_⟩
  · rcases hv with ⟨e, tv, g⟩ | ⟨e, od⟩
    · exact .inl ⟨e, ks, tv⟩
    · exact .inr ⟨e, od⟩
  obtain ⟨_, tv, gk⟩ : is = true ∧ TV CT ks (offS S H) v ∧ GoodT ks := by
    rcases hv with h | ⟨e, _⟩
    · exact h
    · rw [e] at z
      cases z
  have bd1 := bd.same m s1
  have fr1 := fr.mono s1
  obtain ⟨dx, t0, w0, xs, hb1, hp1, tv1, wv1, _⟩ := id bd1.ex
  refine ⟨v, rfl, S, v, ks, rfl, fr1, tv.mono (offS_mono s1), gk, fun l H2 s2 => kR z NO (mi_yes l) H2 (s1.trans s2), fun l H2 s2 => ?_⟩
  have bd2 := bd1.same m s2
  obtain ⟨dx2, t2, w2, xs2, hb2, _⟩ := id bd2.ex
  exact ⟨b, dx2, _, rfl, hb2, v, rfl, S, b, p, cap, st, past, v, ks, is, rfl, fr1.mono s2, bd2, l9, trivial, .inl ⟨z, tv.mono (offS_mono (s1.trans s2)), gk⟩, fun z2 => absurd (z.symm.trans z2) (by decide), fun _ N hN H3 s3 => kR z N ((mi_no l).trans hN) H3 (s1.trans (s2.trans s3)), fun _ hN H3 kb bd3 => kQ z ((mi_no l).trans hN) H3 ((Kb.of (s1.trans s2)).trans kb) bd3⟩
theorem ok_minit {chk : List Ro → Option Addr} {f fC fO g CT CB D NT NO : Addr} {fd fdC fdO gd : FuncData} {file : PySem.Str} (F : SuX.FunS K "__init__" "Mirrored.__init__" (defArgs s_minit) (defBody s_minit) (defScope s_minit) [] file D f fd) (pf : SuX.PFile P file) (sk : SuX.SupK K mg CB D) (sm : SuX.SupM K CB D "__init__" g)
    (GC : FnOk P w K mg base (L2.CX P w) 1 fC fdC ["thing"] (spCk CT NT)) (bC : Binds K fdC ["thing"] []) (kC : PySem.W.keepIn K (.ref fC) = true) (gC : mg "check_table" = some (.ref fC))
    (GO : FnOk P w K mg base (L2.CX P w) 6 fO fdO ["table"] (spCmi CT NO)) (bO : Binds K fdO ["table"] []) (kO : PySem.W.keepIn K (.ref fO) = true) (gO : mg "check_mirrored" = some (.ref fO))
    {k : Nat} (k6 : 6 ≤ k) (G : FnOk P w K mg base (L2.CX P w) k g gd ["self", "table"] (spInitU CT CB QP NT chk)) (bG : Binds K gd ["self", "table"] []) :
    FnOk P w K mg base (L2.CX P w) (k + 1) f fd ["self", "table"] (spInitU CT CB QP NT (miChk NO (fun _ => chk) none)) := by
  refine SuX.fnS_of F pf sc_minit (hp0_of rfl rfl) (fun vs H Q E h => ?_) (fun cda cc A outer s H vs Q E hh hr h => ?_)
  · obtain ⟨S, x, dx, v, ks, is, rfl, _⟩ := h
    rfl
  obtain ⟨S, x, dx, v, ks, is, rfl, fr, sx, hx, hv, kE, kR, kQ⟩ := h
  have pL := passes_call (X := SuX.cxS (L2.CX P w) P w K mg base n_minit "Mirrored.__init__" (defScope s_minit) f cda cc A outer s H E) (takes_of rfl rfl rfl rfl) (E := E) (fun _ _ _ _ h => h)
  refine ⟨_, SuX.pas_cons (SuX.pa1_of (ps_expr (pe_call GC (hr.mono (by omega)) rfl gC kC bC .nil pL (pa_cons (pv 1) pa_nil))))
    (SuX.pas_cons (SuX.pa1_of (ps_expr (pe_call GO (hr.mono (by omega)) rfl gO kO bO .nil pL (pa_cons (pv 1) pa_nil))))
    (SuX.pas_one (SuX.pa1_expr (SuX.px_sup sc_minit hh sk sm G hr bG .nil pL (pa_cons (pv 1) pa_nil) (fun I hb h => SuX.cw_args sm.fi (by rfl) (by rfl) I hb h))))), ?_⟩
  refine ⟨v, rfl, S, v, is, rfl, fr, ?_, kE, fun z H1 s1 => ?_⟩
  · rcases hv with ⟨e, tv, g⟩ | ⟨e, od⟩
    · exact .inl ⟨e, ks, tv⟩
    · exact .inr ⟨e, od⟩
  obtain ⟨_, tv, gk⟩ : is = true ∧ TV CT ks (offS S H) v ∧ GoodT ks := by
    rcases hv with h | ⟨e, _⟩
    · exact h
    · rw [e] at z
      cases z
  refine ⟨v, rfl, S, v, ks, rfl, fr.mono s1, tv.mono (offS_mono s1), gk, fun l H2 s2 => kR z NO (mi_yes l) H2 (s1.trans s2), fun l H2 s2 => ?_⟩
  have s12 := s1.trans s2
  refine ⟨x, dx, [], rfl, s12 _ _ hx, v, rfl, S, x, dx, v, ks, is, rfl, fr.mono s12, sx, s12 _ _ hx, .inl ⟨z, tv.mono (offS_mono s12), gk⟩, fun z2 => absurd (z.symm.trans z2) (by decide), fun _ N hN H4 s4 => kR z N ((mi_no l).trans hN) H4 (s12.trans s4), fun _ hN p H4 hp kp bd => ?_⟩
  have hp0 : H p = none := by
    cases e : H p with
    | none => rfl
    | some o =>
      rw [s12 _ _ e] at hp
      cases hp
  exact kQ z ((mi_no l).trans hN) p _ hp0 (fun y o n e => kp y o n (s12 _ _ e)) bd
end
end Q

set_option maxHeartbeats 1000000
namespace Q
open PySem PySem.Spec PyProof.Rows L2 Ca
/-! ### reading methods of CappedMirror -/
abbrev cX : Stmt := top 54
abbrev s_tabX : Stmt := inClass cX 2
abbrev n_tabX : List PySem.Str := ["self"]
theorem sc_tabX : FnScope n_tabX ["self"] (defScope s_tabX) := ⟨rfl, rfl, rfl, by decide +kernel, rfl, by decide +kernel, by decide +kernel⟩
abbrev s_qsX : Stmt := inClass cX 8
abbrev n_qsX : List PySem.Str := ["self"]
theorem sc_qsX : FnScope n_qsX ["self"] (defScope s_qsX) := ⟨rfl, rfl, rfl, by decide +kernel, rfl, by decide +kernel, by decide +kernel⟩
abbrev s_chX : Stmt := inClass cX 10
abbrev n_chX : List PySem.Str := ["self"]
theorem sc_chX : FnScope n_chX ["self"] (defScope s_chX) := ⟨rfl, rfl, rfl, by decide +kernel, rfl, by decide +kernel, by decide +kernel⟩
abbrev s_cntX : Stmt := inClass cX 9
abbrev n_cntX : List PySem.Str := ["self"]
theorem sc_cntX : FnScope n_cntX ["self"] (defScope s_cntX) := ⟨rfl, rfl, rfl, by decide +kernel, rfl, by decide +kernel, by decide +kernel⟩
abbrev s_lenX : Stmt := inClass cX 13
abbrev n_lenX : List PySem.Str := ["self"]
theorem sc_lenX : FnScope n_lenX ["self"] (defScope s_lenX) := ⟨rfl, rfl, rfl, by decide +kernel, rfl, by decide +kernel, by decide +kernel⟩
abbrev s_repX : Stmt := inClass cX 14
abbrev n_repX : List PySem.Str := ["self"]
theorem sc_repX : FnScope n_repX ["self"] (defScope s_repX) := ⟨rfl, rfl, rfl, by decide +kernel, rfl, by decide +kernel, by decide +kernel⟩
section
variable {P : Program} {w : World} {K : PySem.W.Frag} {mg : PySem.Str → Option Value} {base : Heap} {α : Type} {QP : α → Hp → V → Prop}
theorem ok_tabX {f CT CB : Addr} {fd : FuncData} (F : FnM K "table" "CappedMirror.table" s_tabX f fd) (c : BCl K CB) (m : QMon QP) : FnOk P w K mg base CX0 1 f fd ["self"] (spQ (IBTab CT CB QP)) := by
  refine F.ok sc_tabX (spQ_len (by rintro _ _ _ ⟨v, b, p, cap, st, n, rfl, _⟩; rfl)) (fun cdv A outer s H vs Q E hr h => ?_)
  obtain ⟨S, P0, fr, ⟨v, b, p, cap, st, n, rfl, bv, rfl⟩, q⟩ := h
  refine ⟨_, PSs.nox (pss_one (ps_ret (pe_fld (pv 0) rfl))), ?_⟩
  exact go_ret (P := TV CT st.ks) fr (e_bHeld c (e_varP (P := BV CT CB QP b p cap st n) rfl fun _ s => bv.mono m s)) q
theorem ok_qsX {f CT CB : Addr} {fd : FuncData} (F : FnM K "questions" "CappedMirror.questions" s_qsX f fd) (c : BCl K CB) (m : QMon QP) : FnOk P w K mg base CX0 1 f fd ["self"] (spQ (IBQs CT CB QP)) := by
  refine F.ok sc_qsX (spQ_len (by rintro _ _ _ ⟨v, b, p, cap, st, n, rfl, _⟩; rfl)) (fun cdv A outer s H vs Q E hr h => ?_)
  obtain ⟨S, P0, fr, ⟨v, b, p, cap, st, n, rfl, bv, rfl⟩, q⟩ := h
  refine ⟨_, PSs.nox (pss_one (ps_ret (pe_fld (pv 0) rfl))), ?_⟩
  exact go_ret (P := WV QP st.qs) fr (e_bWatched c (e_varP (P := BV CT CB QP b p cap st n) rfl fun _ s => bv.mono m s)) q
theorem ok_chX {f CT CB : Addr} {fd : FuncData} (F : FnM K "changes" "CappedMirror.changes" s_chX f fd) (T : Tx K mg) (c : BCl K CB) (m : QMon QP) : FnOk P w K mg base CX0 1 f fd ["self"] (spQ (IBCh CT CB QP)) := by
  refine F.ok sc_chX (spQ_len (by rintro _ _ _ ⟨v, b, p, cap, st, n, rfl, _⟩; rfl)) (fun cdv A outer s H vs Q E hr h => ?_)
  obtain ⟨S, P0, fr, ⟨v, b, p, cap, st, n, rfl, bv, rfl⟩, q⟩ := h
  refine ⟨_, PSs.nox (pss_one (ps_ret (pe_callB (call_lenQ : CallR _ _ (rLenQ K)) (by rfl) T.len bLen (pa_cons (pe_fld (pv 0) rfl) pa_nil)))), ?_⟩
  exact go_ret (P := fun H v => Rp H v (.int (n : Int))) fr (e_lenLn (e_bPast c (e_varP (P := BV CT CB QP b p cap st n) rfl fun _ s => bv.mono m s))) q
theorem ok_cntX {cnt : α → List Ro → Int} {f CT CB : Addr} {fd : FuncData} (F : FnM K "counts" "CappedMirror.counts" s_cntX f fd) (c : BCl K CB) (m : QMon QP) (D1 : Fd P w K mg base "counts_in" 8 ["table", "questions"] (spQ (ICin CT QP cnt))) : FnOk P w K mg base CX0 9 f fd ["self"] (spQ (IBCnt CT CB QP cnt)) := by
  obtain ⟨f1, fd1, G1, b1, k1, m1⟩ := D1.ex
  refine F.ok sc_cntX (spQ_len (by rintro _ _ _ ⟨v, b, p, cap, st, n, rfl, _⟩; rfl)) (fun cdv A outer s H vs Q E hr h => ?_)
  obtain ⟨S, P0, fr, ⟨v, b, p, cap, st, n, rfl, bv, rfl⟩, q⟩ := h
  refine ⟨_, PSs.nox (pss_one (ps_ret (pe_call G1 (hr.mono (by decide)) rfl m1 k1 b1 .nil pass0 (pa_cons (pe_fld (pv 0) rfl) (pa_cons (pe_fld (pv 0) rfl) pa_nil))))), ?_⟩
  have hv : ∀ {F'}, Same (offS S H) F' → EvP (tVar 0) [some v] F' (BV CT CB QP b p cap st n) := fun s => e_varP rfl fun _ s2 => bv.mono m (s.trans s2)
  refine go_ret (P := fun H v => Rp H v (.tuple (st.qs.map fun q => .int (cnt q st.ks)))) fr (e_callQ (ap_cons (e_bHeld c (hv (Same.refl _))) mon_tv (ap_cons (e_bWatched c (hv (Same.refl _))) (mon_wv m) ap_nil)) fun F vs r => ?_) q
  obtain ⟨x, y, rfl, h1, h2⟩ := psa2 r
  exact ⟨x, y, st.ks, st.qs, rfl, h1, bv.g, h2, rfl⟩
theorem ok_lenX {f CT CB N fL : Addr} {fd fdL : FuncData} (F : FnM K "__len__" "CappedMirror.__len__" s_lenX f fd) (T : Tx K mg) (c : BCl K CB) (m : QMon QP)
    (hsL : PySem.W.findIn K (.ref CT) "__len__" = some (some (.ref fL))) (hfL : PySem.W.isFn K (.ref fL) = true) (GLen : FnOk P w K mg base CX0 1 fL fdL ["self"] (spQ (ITLen CT))) (bLen2 : Binds K fdL ["self"] []) : FnOk P w K mg base CX0 3 f fd ["self"] (spQ (IBLen CT CB QP)) := by
  refine F.ok sc_lenX (spQ_len (by rintro _ _ _ ⟨v, b, p, cap, st, n, rfl, _⟩; rfl)) (fun cdv A outer s H vs Q E hr h => ?_)
  obtain ⟨S, P0, fr, ⟨v, b, p, cap, st, n, rfl, bv, rfl⟩, q⟩ := h
  refine ⟨_, PSs.nox (pss_one (ps_ret (pe_callB (call_lenO hsL hfL GLen bLen2 (hr.mono (by decide)) : CallR _ _ (rLenO CT (spQ (ITLen CT)))) (by rfl) T.len bLen (pa_cons (pe_fld (pv 0) rfl) pa_nil)))), ?_⟩
  have lk := goodT_len bv.g
  exact go_ret (P := fun H v => Rp H v (.int (st.ks.length : Int))) fr (e_lenTab (e_bHeld c (e_varP (P := BV CT CB QP b p cap st n) rfl fun _ s => bv.mono m s)) (by omega)) q
theorem ok_repX {f CT CB N fL : Addr} {fd fdL : FuncData} (F : FnM K "__repr__" "CappedMirror.__repr__" s_repX f fd) (T : Tx K mg) (c : BCl K CB) (m : QMon QP)
    (hsL : PySem.W.findIn K (.ref CT) "__len__" = some (some (.ref fL))) (hfL : PySem.W.isFn K (.ref fL) = true) (GLen : FnOk P w K mg base CX0 1 fL fdL ["self"] (spQ (ITLen CT))) (bLen2 : Binds K fdL ["self"] []) : FnOk P w K mg base CX0 3 f fd ["self"] (spQ (IBRep CT CB QP "CappedMirror")) := by
  refine F.ok sc_repX (spQ_len (by rintro _ _ _ ⟨v, b, p, cap, st, n, rfl, _⟩; rfl)) (fun cdv A outer s H vs Q E hr h => ?_)
  obtain ⟨S, P0, fr, ⟨v, b, p, cap, st, n, rfl, bv, rfl⟩, q⟩ := h
  refine ⟨_, PSs.nox (pss_one (ps_ret (pe_joinedQ (.cons pe_str (.cons (pe_fmt (pe_callB (call_lenO hsL hfL GLen bLen2 (hr.mono (by decide)) : CallR _ _ (rLenO CT (spQ (ITLen CT)))) (by rfl) T.len bLen (pa_cons (pe_fld (pv 0) rfl) pa_nil))) (.cons pe_str .nil)))))), ?_⟩
  have lk := goodT_len bv.g
  have small : ∀ n : Nat, n ≤ 12 → ((n : Nat) : Int).natAbs.log2 < 1920 := by decide +kernel
  have lens12 : ∀ n : Nat, n ≤ 12 → lens [("CappedMirror" : PySem.Str) ++ PySem.Str.ofString "(", PySem.Str.ofString (toString (n : Int)), PySem.Str.ofString " rows)"] ≤ 1000 := by decide +kernel
  refine go_ret (P := fun H v => Rp H v (.str (bsay "CappedMirror" st.ks.length))) fr (e_joined (ys := [("CappedMirror" : PySem.Str) ++ PySem.Str.ofString "(", PySem.Str.ofString (toString (st.ks.length : Int)), PySem.Str.ofString " rows)"]) (.cons e_str (.cons (e_fmtI (e_lenTab (e_bHeld c (e_varP (P := BV CT CB QP b p cap st n) rfl fun _ s => bv.mono m s)) (by omega)) (small _ lk)) (.cons e_str .nil))) (lens12 _ lk)) q
end
end Q

set_option maxHeartbeats 1000000
namespace Q
open PySem PySem.Spec PyProof.Rows L2 Ca
/-! ### CappedMirror: what is its own -/
abbrev s_mostX : Stmt := inClass cX 1
abbrev n_mostX : List PySem.Str := ["self"]
theorem sc_mostX : FnScope n_mostX ["self"] (defScope s_mostX) := ⟨rfl, rfl, rfl, by decide +kernel, rfl, by decide +kernel, by decide +kernel⟩
abbrev s_xinit : Stmt := inClass cX 0
abbrev n_xinit : List PySem.Str := ["self", "table", "most"]
theorem sc_xinit : SuX.SScope n_xinit ["self", "table", "most"] (defScope s_xinit) := ⟨rfl, rfl, rfl, by decide +kernel, rfl, by decide +kernel, by decide +kernel, by decide +kernel, rfl, rfl⟩
abbrev s_xasg : Stmt := inClass cX 4
abbrev n_xasg : List PySem.Str := ["self", "table"]
theorem sc_xasg : SuX.SScope n_xasg ["self", "table"] (defScope s_xasg) := ⟨rfl, rfl, rfl, by decide +kernel, rfl, by decide +kernel, by decide +kernel, by decide +kernel, rfl, rfl⟩
abbrev s_xput : Stmt := inClass cX 5
abbrev n_xput : List PySem.Str := ["self", "kind", "left", "right", "often"]
theorem sc_xput : SuX.SScope n_xput ["self", "kind", "left", "right", "often"] (defScope s_xput) := ⟨rfl, rfl, rfl, by decide +kernel, rfl, by decide +kernel, by decide +kernel, by decide +kernel, rfl, rfl⟩
section
variable {P : Program} {w : World} {K : PySem.W.Frag} {mg : PySem.Str → Option Value} {base : Heap} {α : Type} {QP : α → Hp → V → Prop}
theorem ok_mostX {f CT CB : Addr} {fd : FuncData} (F : FnM K "most" "CappedMirror.most" s_mostX f fd) (c : BCl K CB) (m : QMon QP) : FnOk P w K mg base CX0 1 f fd ["self"] (spQ (IBMost CT CB QP)) := by
  refine F.ok sc_mostX (spQ_len (by rintro _ _ _ ⟨v, b, p, cap, st, n, rfl, _⟩; rfl)) (fun cdv A outer s H vs Q E hr h => ?_)
  obtain ⟨S, P0, fr, ⟨v, b, p, cap, st, n, rfl, bv, rfl⟩, q⟩ := h
  refine ⟨_, PSs.nox (pss_one (ps_ret (pe_fld (pv 0) rfl))), ?_⟩
  exact go_ret (P := fun H v => Rp H v (.int cap)) fr (e_bCap c (e_varP (P := BV CT CB QP b p (some cap) st n) rfl fun _ s => bv.mono m s)) q
theorem ok_xput {kf : Ky → List Ky} {k : Nat} {f g CT CB D NK NN NX NO : Addr} {fd gd : FuncData} {file : PySem.Str} (F : SuX.FunS K "put" "CappedMirror.put" (defArgs s_xput) (defBody s_xput) (defScope s_xput) [] file D f fd) (pf : SuX.PFile P file) (sk : SuX.SupK K mg CB D) (sm : SuX.SupM K CB D "put" g)
    (G : FnOk P w K mg base (L2.CX P w) k g gd ["self", "kind", "left", "right", "often"] (spPutC CT CB QP kf NK NN NX NO)) (bG : Binds K gd ["self", "kind", "left", "right", "often"] []) :
    FnOk P w K mg base (L2.CX P w) (k + 1) f fd ["self", "kind", "left", "right", "often"] (spPutC CT CB QP kf NK NN NX NO) := by
  refine SuX.fnS_of F pf sc_xput (hp0_of rfl rfl) (fun vs H Q E h => ?_) (fun cda cc A outer s H vs Q E hh hr h => ?_)
  · obtain ⟨S, b, p, cp, st, past, v1, v2, v3, v4, d1, d2, d3, d4, rfl, _⟩ := h
    rfl
  have h0 := h
  obtain ⟨S, b, p, cp, st, past, v1, v2, v3, v4, d1, d2, d3, d4, rfl, fr, bd, _⟩ := h
  have pL := passes_call (X := SuX.cxS (L2.CX P w) P w K mg base n_xput "CappedMirror.put" (defScope s_xput) f cda cc A outer s H E) (takes_of rfl rfl rfl rfl) (E := E) (fun _ _ _ _ h => h)
  refine ⟨_, SuX.pas_one (SuX.pa1_expr (SuX.px_sup sc_xput hh sk sm G hr bG .nil pL (pa_cons (pv 1) (pa_cons (pv 2) (pa_cons (pv 3) (pa_cons (pv 4) pa_nil)))) (fun I hb h => SuX.cw_args sm.fi (by rfl) (by rfl) I hb h))), ?_⟩
  obtain ⟨dx, t0, w0, xs, hb, _⟩ := id bd.ex
  exact ⟨b, dx, _, rfl, hb, v1, rfl, v2, rfl, v3, rfl, v4, rfl, h0⟩
theorem ok_xasg {chk : Option Int → List Ro → Option Addr} {cs : Option Int → Prop} {k : Nat} {f g CT CB D NT : Addr} {fd gd : FuncData} {file : PySem.Str} (F : SuX.FunS K "assign_table" "CappedMirror.assign_table" (defArgs s_xasg) (defBody s_xasg) (defScope s_xasg) [] file D f fd) (pf : SuX.PFile P file) (sk : SuX.SupK K mg CB D) (sm : SuX.SupM K CB D "assign_table" g)
    (G : FnOk P w K mg base (L2.CX P w) k g gd ["self", "table"] (spAsg CT CB QP NT cs chk)) (bG : Binds K gd ["self", "table"] []) :
    FnOk P w K mg base (L2.CX P w) (k + 1) f fd ["self", "table"] (spAsg CT CB QP NT cs chk) := by
  refine SuX.fnS_of F pf sc_xasg (hp0_of rfl rfl) (fun vs H Q E h => ?_) (fun cda cc A outer s H vs Q E hh hr h => ?_)
  · obtain ⟨S, b, p, cap, st, past, v, ks, is, rfl, _⟩ := h
    rfl
  have h0 := h
  obtain ⟨S, b, p, cap, st, past, v, ks, is, rfl, fr, bd, _⟩ := h
  have pL := passes_call (X := SuX.cxS (L2.CX P w) P w K mg base n_xasg "CappedMirror.assign_table" (defScope s_xasg) f cda cc A outer s H E) (takes_of rfl rfl rfl rfl) (E := E) (fun _ _ _ _ h => h)
  refine ⟨_, SuX.pas_one (SuX.pa1_expr (SuX.px_sup sc_xasg hh sk sm G hr bG .nil pL (pa_cons (pv 1) pa_nil) (fun I hb h => SuX.cw_args sm.fi (by rfl) (by rfl) I hb h))), ?_⟩
  obtain ⟨dx, t0, w0, xs, hb, _⟩ := id bd.ex
  exact ⟨b, dx, _, rfl, hb, v, rfl, h0⟩
theorem ok_xinit {chk : Option Int → List Ro → Option Addr} {dvs : List V} {k : Nat} {f g CT CB D NT NN : Addr} {fd gd : FuncData} {file : PySem.Str} (F : SuX.FunS K "__init__" "CappedMirror.__init__" (defArgs s_xinit) (defBody s_xinit) (defScope s_xinit) dvs file D f fd) (pf : SuX.PFile P file) (sk : SuX.SupK K mg CB D) (sm : SuX.SupM K CB D "__init__" g)
    (G : FnOk P w K mg base (L2.CX P w) k g gd ["self", "table", "most"] (spInitC CT CB QP NT NN chk)) (bG : Binds K gd ["self", "table", "most"] []) :
    FnOk P w K mg base (L2.CX P w) (k + 1) f fd ["self", "table", "most"] (spInitC CT CB QP NT NN chk) := by
  refine SuX.fnS_of F pf sc_xinit (hp0_of rfl rfl) (fun vs H Q E h => ?_) (fun cda cc A outer s H vs Q E hh hr h => ?_)
  · obtain ⟨S, x, dx, v, vm, ks, is, dm, rfl, _⟩ := h
    rfl
  have h0 := h
  obtain ⟨S, x, dx, v, vm, ks, is, dm, rfl, fr, sx, hx, _⟩ := h
  have pL := passes_call (X := SuX.cxS (L2.CX P w) P w K mg base n_xinit "CappedMirror.__init__" (defScope s_xinit) f cda cc A outer s H E) (takes_of rfl rfl rfl rfl) (E := E) (fun _ _ _ _ h => h)
  refine ⟨_, SuX.pas_one (SuX.pa1_expr (SuX.px_sup sc_xinit hh sk sm G hr bG .nil pL (pa_cons (pv 1) (pa_cons (pv 2) pa_nil)) (fun I hb h => SuX.cw_args sm.fi (by rfl) (by rfl) I hb h))), ?_⟩
  exact ⟨x, dx, [], rfl, hx, v, rfl, vm, rfl, h0⟩
end
end Q

set_option maxHeartbeats 1000000
namespace Q
open PySem PySem.Spec PyProof.Rows L2 Ca
/-! ### mirrored rows -/
def mrR (a : Ro) : Ro := ⟨a.k, a.r, a.l, a.n⟩
theorem ro_eqv (a b : Ro) : PyData.eqv (roD a) (roD b) = true ↔ a = b := by
  obtain ⟨k, l, r, n⟩ := a
  obtain ⟨k', l', r', n'⟩ := b
  simp [roD, PyData.eqv, PyData.eqvAll]
def inB (ks : List Ro) (a : Ro) : Bool := (ks.map roD).any fun z => PyData.eqv z (roD a)
theorem in_iff {ks : List Ro} {a : Ro} : inB ks a = true ↔ a ∈ ks := by
  unfold inB
  rw [List.any_eq_true]
  constructor
  · rintro ⟨d, hd, e⟩
    obtain ⟨b, hb, rfl⟩ := (List.mem_map (l := ks)).mp hd
    rw [← (ro_eqv b a).mp e]
    exact hb
  · intro h
    exact ⟨_, List.mem_map.mpr ⟨a, h, rfl⟩, (ro_eqv a a).mpr rfl⟩
theorem mir_iff {m : Nat} {ks : List Ro} (h : SRo m ks) : mirB ks = true ↔ Mir ks := by
  unfold mirB Mir
  rw [List.all_eq_true]
  constructor
  · intro z a ha
    have e := of_decide_eq_true (z a ha)
    have g := h.g a ha
    by_cases y : ∃ b ∈ ks, roK b = kOf a.k a.r a.l
    · obtain ⟨b, hb, eb⟩ := y
      have e2 := cnt_one h.nd hb
      rw [eb, e] at e2
      obtain ⟨k, l, r, n⟩ := b
      simp only [roK, kOf, List.cons.injEq, Sum.inr.injEq, Sum.inl.injEq, and_true] at eb
      obtain ⟨rfl, rfl, rfl⟩ := eb
      simp only at e2
      rw [← e2] at hb
      exact hb
    · rw [cnt_zero fun b hb eb => y ⟨b, hb, eb⟩] at e
      have := g.n1
      omega
  · intro z a ha
    exact decide_eq_true (cnt_one h.nd (z a ha))
end Q

set_option maxHeartbeats 1000000
namespace Q
open PySem PySem.Spec PyProof.Rows L2 Ca LamX
/-! ### _law_made: a book of one of the four kinds -/
abbrev s_lmd : Stmt := top 68
abbrev n_lmd : List PySem.Str := ["_law_kind", "_law_made_here", "_law_cap"]
theorem sc_lmd : FnScope n_lmd ["_law_kind", "_law_made_here", "_law_cap"] (defScope s_lmd) := ⟨rfl, rfl, rfl, by decide +kernel, rfl, by decide +kernel, by decide +kernel⟩
/-- the class of each kind -/
def ckOf (b m c x : Addr) : Nat → Addr
  | 0 => b
  | 1 => m
  | 2 => c
  | _ => x
/-- how often a row may be there, by the kind -/
def capK : Nat → Int → Option Int
  | 0, _ => none
  | 1, _ => none
  | _, c => some c
/-- rows that a book of this kind may have -/
structure OkK (kind : Nat) (cap : Int) (ks : List Ro) : Prop where
  m : kind % 2 = 1 → mirB ks = true
  c : 2 ≤ kind → ∀ a ∈ ks, a.n ≤ cap
theorem often_none {c : Int} {ks : List Ro} (h : ∀ a ∈ ks, a.n ≤ c) : ¬ often? (some c) ks = true := fun z => by
  obtain ⟨a, ha, l⟩ := often_yes z
  have := h a ha
  omega
theorem okk_of {kind m : Nat} {cap : Int} {ks : List Ro} (m12 : m ≤ 12) (h : Lst kind m cap ks) : OkK kind cap ks := ⟨fun z => (mir_iff h.s).mpr (h.r z), fun _ => h.c⟩
def spMade {α : Type} (CT : Addr) (CK : Nat → Addr) (QP : α → Hp → V → Prop) (T : List (Addr × PySem.Str)) : Sp := fun vs H Q _ => ∃ (S : Addr → Bool) (s : Addr) (v : V) (ks : List Ro) (kind : Nat) (cap : Int), vs = [.int (kind : Int), v, .int cap] ∧ kind < 4 ∧ Fr S H ∧ Src H s ∧ Tabs T H ∧ TV CT ks (offS S H) v ∧ GoodT ks ∧ OkK kind cap ks ∧ 1 ≤ cap ∧ cap ≤ 10000 ∧
  ∀ b p H', Same (offS S H) (offS (addS (addS S b) p) H') → Same H H' → Tabs T H' → Src H' s → p ≠ s → b ≠ s → Fr (addS (addS S b) p) H' → BD CT (CK kind) QP (addS (addS S b) p) b p (capK kind cap) ⟨ks, []⟩ [] H' → Q (.ref b) H'
section
variable {P : Program} {w : World} {K : PySem.W.Frag} {mg : PySem.Str → Option Value} {base : Heap} {α : Type} {QP : α → Hp → V → Prop}
theorem ok_lmd {T : List (Addr × PySem.Str)} {CK : Nat → Addr} {f CT NT NM NN NO fB fM fC fX : Addr} {fd fdB fdM fdC fdX : FuncData} (F : FnP K "_law_made" s_lmd f fd)
    (MB : Mk K (CK 0) fB) (GB : FnOk P w K mg base (L2.CX P w) 10 fB fdB ["self", "table"] (spInitU CT (CK 0) QP NT (fun _ => none))) (bB : Binds K fdB ["self", "table"] []) (gB : mg "Book" = some (.ref (CK 0)))
    (MM : Mk K (CK 1) fM) (GM : FnOk P w K mg base (L2.CX P w) 10 fM fdM ["self", "table"] (spInitU CT (CK 1) QP NT (miChk NM (fun _ _ => none) none))) (bM : Binds K fdM ["self", "table"] []) (gM : mg "Mirrored" = some (.ref (CK 1)))
    (MC : Mk K (CK 2) fC) (GC : FnOk P w K mg base (L2.CX P w) 10 fC fdC ["self", "table", "most"] (spInitC CT (CK 2) QP NT NN (ofChk NO fun _ _ => none))) (bC : KBn K fdC ["self", "table", "most"] 2 ["most"] (fun us ws => us ++ ws) (fun vs zs => vs ++ zs)) (gC : mg "Capped" = some (.ref (CK 2)))
    (MX : Mk K (CK 3) fX) (GX : FnOk P w K mg base (L2.CX P w) 10 fX fdX ["self", "table", "most"] (spInitC CT (CK 3) QP NT NN (ofChk NO fun _ ks => miChk NM (fun _ _ => none) none ks))) (bX : KBn K fdX ["self", "table", "most"] 2 ["most"] (fun us ws => us ++ ws) (fun vs zs => vs ++ zs)) (gX : mg "CappedMirror" = some (.ref (CK 3))) : FnOk P w K mg base CX0 12 f fd ["_law_kind", "_law_made_here", "_law_cap"] (spMade CT CK QP T) := by
  refine F.ok sc_lmd (fun vs H Q E h => ?_) (fun cdv A outer s0 H vs Q E hr h => ?_)
  · obtain ⟨S, s, v, ks, kind, cap, rfl, _⟩ := h
    rfl
  obtain ⟨S, s, v, ks, kind, cap, rfl, k4, fr, sc, tT, tv, g, ok, c1, c9, q⟩ := h
  refine ⟨_, PSs.nox (pss_cons (ps_if (pt_cmpR op_eq (pv 0) pe_int (nomark _)) (pss_one (ps_ret (pe_make MB GB (hr.mono (by omega)) rfl gB bB .nil (passes_call L2.takes0 (fun _ _ _ _ h => h)) (pa_cons (pv 1) pa_nil)))) pss_nil)
      (pss_cons (ps_if (pt_cmpR op_eq (pv 0) pe_int (nomark _)) (pss_one (ps_ret (pe_make MM GM (hr.mono (by omega)) rfl gM bM .nil (passes_call L2.takes0 (fun _ _ _ _ h => h)) (pa_cons (pv 1) pa_nil)))) pss_nil)
      (pss_one (ps_ret (pe_ifExp (pt_cmpR op_eq (pv 0) pe_int (nomark _)) (pe_makeN MC GC (hr.mono (by omega)) rfl gC bC (passes_call L2.takes0 (fun _ _ _ _ h => h)) (pa_cons (pv 1) pa_nil) (pk_cons (pv 2) pk_nil)) (pe_makeN MX GX (hr.mono (by omega)) rfl gX bX (passes_call L2.takes0 (fun _ _ _ _ h => h)) (pa_cons (pv 1) pa_nil) (pk_cons (pv 2) pk_nil))))))), ?_⟩
  have tt : ∀ {F : Hp} {i : Int} {b : Bool}, decide (((kind : Nat) : Int) = i) = b → EvB (tTest (tOp rEq (tVar 0) (tC (.int i)))) [some (V.int (kind : Int)), some v, some (V.int cap)] F b := fun e => e ▸ b_test (e_eqI (e_var rfl (.int _)) e_int)
  have tvs : ∀ {H1 : Hp}, Same H H1 → TV CT ks (offS S H1) v := fun s1 => tv.mono (offS_mono s1)
  match kind, k4 with
  | 0, _ => exact go_ifS (b := true) fr (tt rfl) (fun _ H1 s1 f1 => ⟨_, rfl, initU_ok (s := s) f1 (src_same sc s1) (tT.ext s1) g (tvs s1) rfl fun b p H' off sH t' src' n1 n2 fr' bd => q b p H' ((offS_mono s1).trans off) (s1.trans sH) t' src' n1 n2 fr' bd⟩) fun z => by cases z
  | 1, _ =>
    refine go_ifS (b := false) fr (tt rfl) (fun z => by cases z) fun _ H0 s0 f0 => ?_
    exact go_ifS (b := true) f0 (tt rfl) (fun _ H1 s1 f1 => ⟨_, rfl, initU_ok (s := s) f1 (src_same (src_same sc s0) s1) ((tT.ext s0).ext s1) g (tvs (s0.trans s1)) (mi_no (ok.m rfl)) fun b p H' off sH t' src' n1 n2 fr' bd => q b p H' ((offS_mono (s0.trans s1)).trans off) ((s0.trans s1).trans sH) t' src' n1 n2 fr' bd⟩) fun z => by cases z
  | 2, _ =>
    refine go_ifS (b := false) fr (tt rfl) (fun z => by cases z) fun _ H0 s0 f0 => ?_
    refine go_ifS (b := false) f0 (tt rfl) (fun z => by cases z) fun _ H1 s1 f1 => ?_
    refine tt (b := true) rfl S H1 f1 (Same.refl _) _ fun H2 s2 => ?_
    rw [if_pos rfl]
    have s02 := (s0.trans s1).trans s2
    exact ⟨_, rfl, _, rfl, rfl, rfl, initC_ok (s := s) (f1.mono s2) (src_same sc s02) (tT.ext s02) g (tvs s02) c1 c9 (of_no (often_none (ok.c (by decide)))) fun b p H' off sH t' src' n1 n2 fr' bd => q b p H' ((offS_mono s02).trans off) (s02.trans sH) t' src' n1 n2 fr' bd⟩
  | 3, _ =>
    refine go_ifS (b := false) fr (tt rfl) (fun z => by cases z) fun _ H0 s0 f0 => ?_
    refine go_ifS (b := false) f0 (tt rfl) (fun z => by cases z) fun _ H1 s1 f1 => ?_
    refine tt (b := false) rfl S H1 f1 (Same.refl _) _ fun H2 s2 => ?_
    rw [if_neg (by decide)]
    have s02 := (s0.trans s1).trans s2
    exact ⟨_, rfl, _, rfl, rfl, rfl, initC_ok (s := s) (f1.mono s2) (src_same sc s02) (tT.ext s02) g (tvs s02) c1 c9 ((of_no (often_none (ok.c (by decide)))).trans (mi_no (ok.m rfl))) fun b p H' off sH t' src' n1 n2 fr' bd => q b p H' ((offS_mono s02).trans off) (s02.trans sH) t' src' n1 n2 fr' bd⟩
  | n + 4, h => exact absurd h (by omega)
end
end Q

set_option maxHeartbeats 1000000
namespace Q
open PySem PySem.Spec PyProof.Rows L2 Ca
/-! ### trying() -/
abbrev cY : Stmt := top 50
abbrev s_tyi : Stmt := inClass cY 0
abbrev n_tyi : List PySem.Str := ["self", "book"]
theorem sc_tyi : FnScope n_tyi ["self", "book"] (defScope s_tyi) := ⟨rfl, rfl, rfl, by decide +kernel, rfl, by decide +kernel, by decide +kernel⟩
abbrev s_btry : Stmt := inClass cB 12
abbrev n_btry : List PySem.Str := ["self"]
theorem sc_btry : FnScope n_btry ["self"] (defScope s_btry) := ⟨rfl, rfl, rfl, by decide +kernel, rfl, by decide +kernel, by decide +kernel⟩
abbrev s_mtry : Stmt := inClass cM 11
abbrev n_mtry : List PySem.Str := ["self"]
theorem sc_mtry : SuX.SScope n_mtry ["self"] (defScope s_mtry) := ⟨rfl, rfl, rfl, by decide +kernel, rfl, by decide +kernel, by decide +kernel, by decide +kernel, rfl, rfl⟩
abbrev s_ctry : Stmt := inClass cC 12
abbrev n_ctry : List PySem.Str := ["self"]
theorem sc_ctry : SuX.SScope n_ctry ["self"] (defScope s_ctry) := ⟨rfl, rfl, rfl, by decide +kernel, rfl, by decide +kernel, by decide +kernel, by decide +kernel, rfl, rfl⟩
abbrev s_xtry : Stmt := inClass cX 12
abbrev n_xtry : List PySem.Str := ["self"]
theorem sc_xtry : SuX.SScope n_xtry ["self"] (defScope s_xtry) := ⟨rfl, rfl, rfl, by decide +kernel, rfl, by decide +kernel, by decide +kernel, by decide +kernel, rfl, rfl⟩
def spTry (CB : Addr) : Sp := fun vs H Q _ => ∃ (b dx : Addr) (fs : List (PySem.Str × V)), vs = [.ref b] ∧ H b = some (.ins CB dx fs) ∧ ∀ t H', Same H H' → Q (.ref t) H'
def spTyI (CY : Addr) : Sp := fun vs H Q _ => ∃ (x dx : Addr) (v : V), vs = [.ref x, v] ∧ H x = some (.ins CY dx []) ∧ ∀ fs, Q .non (upd H x (.ins CY dx fs))
section
variable {P : Program} {w : World} {K : PySem.W.Frag} {mg : PySem.Str → Option Value} {base : Heap}
theorem ok_tyi {f CY : Addr} {fd : FuncData} (F : FnM K "__init__" "Trying.__init__" s_tyi f fd) (cl : Cls K CY) (nb : NoAttr K CY "book") : FnOk P w K mg base (L2.CX P w) 1 f fd ["self", "book"] (spTyI CY) := by
  refine F.ok sc_tyi (fun vs H Q E h => ?_) (fun cdv A outer s H vs Q E hr h => ?_)
  · obtain ⟨x, dx, v, rfl, _⟩ := h
    rfl
  obtain ⟨x, dx, v, rfl, hx, q⟩ := h
  refine ⟨_, pss_one (ps_fld (pv 0) (pv 1) rfl), ?_⟩
  exact ⟨v, rfl, .ref x, rfl, x, CY, dx, _, rfl, hx, cl, nb, by decide, q _⟩
theorem ok_btry {f CY CB fY : Addr} {fd fdY : FuncData} (F : FnM K "trying" "Book.trying" s_btry f fd) (MY : Mk K CY fY) (GY : FnOk P w K mg base (L2.CX P w) 1 fY fdY ["self", "book"] (spTyI CY)) (bY : Binds K fdY ["self", "book"] []) (gY : mg "Trying" = some (.ref CY)) : FnOk P w K mg base (L2.CX P w) 3 f fd ["self"] (spTry CB) := by
  refine F.ok sc_btry (fun vs H Q E h => ?_) (fun cdv A outer s H vs Q E hr h => ?_)
  · obtain ⟨b, dx, fs, rfl, _⟩ := h
    rfl
  obtain ⟨b, dx, fs, rfl, hb, q⟩ := h
  have pL := passes_call (X := cxOf (L2.CX P w) P w K mg base n_btry "Book.trying" (defScope s_btry) f cdv A outer s H E) (takes_of rfl rfl rfl rfl) (E := E) (fun _ _ _ _ h => h)
  refine ⟨_, pss_one (ps_ret (pe_make MY GY (hr.mono (by decide)) rfl gY bY .nil pL (pa_cons (pv 0) pa_nil))), ?_⟩
  refine ⟨_, rfl, fun x dy hx hd ne => ⟨x, dy, .ref b, rfl, upd_same, fun gs => ⟨rfl, q x _ ?_⟩⟩⟩
  have n2 : upd H dy (.own x) x = none := by rw [upd_ne (Ne.symm ne)]; exact hx
  rw [upd_upd]
  exact (same_new hd).trans (same_new n2)
theorem ok_mtry {k : Nat} {f g CB D : Addr} {fd gd : FuncData} {file : PySem.Str} (F : SuX.FunS K "trying" "Mirrored.trying" (defArgs s_mtry) (defBody s_mtry) (defScope s_mtry) [] file D f fd) (pf : SuX.PFile P file) (sk : SuX.SupK K mg CB D) (sm : SuX.SupM K CB D "trying" g)
    (G : FnOk P w K mg base (L2.CX P w) k g gd ["self"] (spTry CB)) (bG : Binds K gd ["self"] []) : FnOk P w K mg base (L2.CX P w) (k + 1) f fd ["self"] (spTry CB) := by
  refine SuX.fnS_of F pf sc_mtry (hp0_of rfl rfl) (fun vs H Q E h => ?_) (fun cda cc A outer s H vs Q E hh hr h => ?_)
  · obtain ⟨b, dx, fs, rfl, _⟩ := h
    rfl
  have h0 := h
  obtain ⟨b, dx, fs, rfl, hb, _⟩ := h
  have pL := passes_call (X := SuX.cxS (L2.CX P w) P w K mg base n_mtry "Mirrored.trying" (defScope s_mtry) f cda cc A outer s H E) (takes_of rfl rfl rfl rfl) (E := E) (fun _ _ _ _ h => h)
  refine ⟨_, SuX.pas_one (SuX.pa1_ret (SuX.px_sup sc_mtry hh sk sm G hr bG .nil pL pa_nil (fun I hb h => SuX.cw_none sm.fi I hb h))), ?_⟩
  exact ⟨b, dx, _, rfl, hb, h0⟩
theorem ok_ctry {k : Nat} {f g CB D : Addr} {fd gd : FuncData} {file : PySem.Str} (F : SuX.FunS K "trying" "Capped.trying" (defArgs s_ctry) (defBody s_ctry) (defScope s_ctry) [] file D f fd) (pf : SuX.PFile P file) (sk : SuX.SupK K mg CB D) (sm : SuX.SupM K CB D "trying" g)
    (G : FnOk P w K mg base (L2.CX P w) k g gd ["self"] (spTry CB)) (bG : Binds K gd ["self"] []) : FnOk P w K mg base (L2.CX P w) (k + 1) f fd ["self"] (spTry CB) := by
  refine SuX.fnS_of F pf sc_ctry (hp0_of rfl rfl) (fun vs H Q E h => ?_) (fun cda cc A outer s H vs Q E hh hr h => ?_)
  · obtain ⟨b, dx, fs, rfl, _⟩ := h
    rfl
  have h0 := h
  obtain ⟨b, dx, fs, rfl, hb, _⟩ := h
  have pL := passes_call (X := SuX.cxS (L2.CX P w) P w K mg base n_ctry "Capped.trying" (defScope s_ctry) f cda cc A outer s H E) (takes_of rfl rfl rfl rfl) (E := E) (fun _ _ _ _ h => h)
  refine ⟨_, SuX.pas_one (SuX.pa1_ret (SuX.px_sup sc_ctry hh sk sm G hr bG .nil pL pa_nil (fun I hb h => SuX.cw_none sm.fi I hb h))), ?_⟩
  exact ⟨b, dx, _, rfl, hb, h0⟩
theorem ok_xtry {k : Nat} {f g CB D : Addr} {fd gd : FuncData} {file : PySem.Str} (F : SuX.FunS K "trying" "CappedMirror.trying" (defArgs s_xtry) (defBody s_xtry) (defScope s_xtry) [] file D f fd) (pf : SuX.PFile P file) (sk : SuX.SupK K mg CB D) (sm : SuX.SupM K CB D "trying" g)
    (G : FnOk P w K mg base (L2.CX P w) k g gd ["self"] (spTry CB)) (bG : Binds K gd ["self"] []) : FnOk P w K mg base (L2.CX P w) (k + 1) f fd ["self"] (spTry CB) := by
  refine SuX.fnS_of F pf sc_xtry (hp0_of rfl rfl) (fun vs H Q E h => ?_) (fun cda cc A outer s H vs Q E hh hr h => ?_)
  · obtain ⟨b, dx, fs, rfl, _⟩ := h
    rfl
  have h0 := h
  obtain ⟨b, dx, fs, rfl, hb, _⟩ := h
  have pL := passes_call (X := SuX.cxS (L2.CX P w) P w K mg base n_xtry "CappedMirror.trying" (defScope s_xtry) f cda cc A outer s H E) (takes_of rfl rfl rfl rfl) (E := E) (fun _ _ _ _ h => h)
  refine ⟨_, SuX.pas_one (SuX.pa1_ret (SuX.px_sup sc_xtry hh sk sm G hr bG .nil pL pa_nil (fun I hb h => SuX.cw_none sm.fi I hb h))), ?_⟩
  exact ⟨b, dx, _, rfl, hb, h0⟩
end
end Q

set_option maxHeartbeats 1000000
namespace Q
open PySem PySem.Spec PyProof.Rows L2 Ca
/-! ### undo() where nothing was done -/
abbrev s_bund : Stmt := inClass cB 11
abbrev n_bund : List PySem.Str := ["self"]
theorem sc_bund : FnScope n_bund ["self"] (defScope s_bund) := ⟨rfl, rfl, rfl, by decide +kernel, rfl, by decide +kernel, by decide +kernel⟩
abbrev s_mund : Stmt := inClass cM 10
abbrev n_mund : List PySem.Str := ["self"]
theorem sc_mund : SuX.SScope n_mund ["self"] (defScope s_mund) := ⟨rfl, rfl, rfl, by decide +kernel, rfl, by decide +kernel, by decide +kernel, by decide +kernel, rfl, rfl⟩
abbrev s_cund : Stmt := inClass cC 11
abbrev n_cund : List PySem.Str := ["self"]
theorem sc_cund : SuX.SScope n_cund ["self"] (defScope s_cund) := ⟨rfl, rfl, rfl, by decide +kernel, rfl, by decide +kernel, by decide +kernel, by decide +kernel, rfl, rfl⟩
abbrev s_xund : Stmt := inClass cX 11
abbrev n_xund : List PySem.Str := ["self"]
theorem sc_xund : SuX.SScope n_xund ["self"] (defScope s_xund) := ⟨rfl, rfl, rfl, by decide +kernel, rfl, by decide +kernel, by decide +kernel, by decide +kernel, rfl, rfl⟩
def spUnd0 {α : Type} (CT CB : Addr) (QP : α → Hp → V → Prop) (ND : Addr) : Sp := fun vs H Q E => ∃ (S : Addr → Bool) (b p : Addr) (cap : Option Int) (st : BSt α), vs = [.ref b] ∧ Fr S H ∧ BD CT CB QP S b p cap st [] H ∧ ∀ H', Same H H' → E (.ref ND) none H'
section
variable {P : Program} {w : World} {K : PySem.W.Frag} {mg : PySem.Str → Option Value} {base : Heap} {α : Type} {QP : α → Hp → V → Prop}
theorem ok_bund {f CT CB ND : Addr} {fd : FuncData} (F : FnM K "undo" "Book.undo" s_bund f fd) (T : Tx K mg) (c : BCl K CB) (m : QMon QP) (XD : XT K mg "NothingDone" ND) : FnOk P w K mg base (L2.CX P w) 3 f fd ["self"] (spUnd0 CT CB QP ND) := by
  refine F.ok sc_bund (fun vs H Q E h => ?_) (fun cdv A outer s H vs Q E hr h => ?_)
  · obtain ⟨S, b, p, cap, st, rfl, _⟩ := h
    rfl
  obtain ⟨S, b, p, cap, st, rfl, fr, bd, kE⟩ := h
  refine ⟨_, pss_cons (ps_if (pt_cmpR op_eq (pe_callB (call_lenQ : CallR _ _ (rLenQ K)) (by rfl) T.len bLen (pa_cons (pe_fld (pv 0) rfl) pa_nil)) pe_int (nomark _)) (pss_one (ps_raise rfl (takes_of rfl rfl rfl rfl) (pmk_own PySem.F.excBase_ValueError XD.xN XD.gN XD.kN (raises_own XD.bN XD.tN) rfl))) pss_nil) pss_never, ?_⟩
  have bv := bd.read m
  refine go_ifS (S := subS S b p) (b := true) (subS_fr fr) (b_test (e_eqI (i := 0) (j := 0) (e_lenLn (e_bPast c (e_varP (P := BV CT CB QP b p cap st 0) rfl fun _ s => bv.mono m s))) e_int)) (fun z H1 s1 f1 => kE H1 s1) fun z => by cases z
theorem ok_mund {k : Nat} {f g CT CB D ND : Addr} {fd gd : FuncData} {file : PySem.Str} (F : SuX.FunS K "undo" "Mirrored.undo" (defArgs s_mund) (defBody s_mund) (defScope s_mund) [] file D f fd) (pf : SuX.PFile P file) (sk : SuX.SupK K mg CB D) (sm : SuX.SupM K CB D "undo" g)
    (G : FnOk P w K mg base (L2.CX P w) k g gd ["self"] (spUnd0 CT CB QP ND)) (bG : Binds K gd ["self"] []) : FnOk P w K mg base (L2.CX P w) (k + 1) f fd ["self"] (spUnd0 CT CB QP ND) := by
  refine SuX.fnS_of F pf sc_mund (hp0_of rfl rfl) (fun vs H Q E h => ?_) (fun cda cc A outer s H vs Q E hh hr h => ?_)
  · obtain ⟨S, b, p, cap, st, rfl, _⟩ := h
    rfl
  obtain ⟨S, b, p, cap, st, rfl, fr, bd, kE⟩ := h
  have pL := passes_call (X := SuX.cxS (L2.CX P w) P w K mg base n_mund "Mirrored.undo" (defScope s_mund) f cda cc A outer s H E) (takes_of rfl rfl rfl rfl) (E := E) (fun _ _ _ _ h => h)
  refine ⟨_, SuX.pas_one (SuX.pa1_expr (SuX.px_sup sc_mund hh sk sm G hr bG .nil pL pa_nil (fun I hb h => SuX.cw_none sm.fi I hb h))), ?_⟩
  obtain ⟨dx, t0, w0, xs, hb, _⟩ := id bd.ex
  exact ⟨b, dx, _, rfl, hb, S, b, p, cap, st, rfl, fr, bd, kE⟩
theorem ok_cund {k : Nat} {f g CT CB D ND : Addr} {fd gd : FuncData} {file : PySem.Str} (F : SuX.FunS K "undo" "Capped.undo" (defArgs s_cund) (defBody s_cund) (defScope s_cund) [] file D f fd) (pf : SuX.PFile P file) (sk : SuX.SupK K mg CB D) (sm : SuX.SupM K CB D "undo" g)
    (G : FnOk P w K mg base (L2.CX P w) k g gd ["self"] (spUnd0 CT CB QP ND)) (bG : Binds K gd ["self"] []) : FnOk P w K mg base (L2.CX P w) (k + 1) f fd ["self"] (spUnd0 CT CB QP ND) := by
  refine SuX.fnS_of F pf sc_cund (hp0_of rfl rfl) (fun vs H Q E h => ?_) (fun cda cc A outer s H vs Q E hh hr h => ?_)
  · obtain ⟨S, b, p, cap, st, rfl, _⟩ := h
    rfl
  obtain ⟨S, b, p, cap, st, rfl, fr, bd, kE⟩ := h
  have pL := passes_call (X := SuX.cxS (L2.CX P w) P w K mg base n_cund "Capped.undo" (defScope s_cund) f cda cc A outer s H E) (takes_of rfl rfl rfl rfl) (E := E) (fun _ _ _ _ h => h)
  refine ⟨_, SuX.pas_one (SuX.pa1_expr (SuX.px_sup sc_cund hh sk sm G hr bG .nil pL pa_nil (fun I hb h => SuX.cw_none sm.fi I hb h))), ?_⟩
  obtain ⟨dx, t0, w0, xs, hb, _⟩ := id bd.ex
  exact ⟨b, dx, _, rfl, hb, S, b, p, cap, st, rfl, fr, bd, kE⟩
theorem ok_xund {k : Nat} {f g CT CB D ND : Addr} {fd gd : FuncData} {file : PySem.Str} (F : SuX.FunS K "undo" "CappedMirror.undo" (defArgs s_xund) (defBody s_xund) (defScope s_xund) [] file D f fd) (pf : SuX.PFile P file) (sk : SuX.SupK K mg CB D) (sm : SuX.SupM K CB D "undo" g)
    (G : FnOk P w K mg base (L2.CX P w) k g gd ["self"] (spUnd0 CT CB QP ND)) (bG : Binds K gd ["self"] []) : FnOk P w K mg base (L2.CX P w) (k + 1) f fd ["self"] (spUnd0 CT CB QP ND) := by
  refine SuX.fnS_of F pf sc_xund (hp0_of rfl rfl) (fun vs H Q E h => ?_) (fun cda cc A outer s H vs Q E hh hr h => ?_)
  · obtain ⟨S, b, p, cap, st, rfl, _⟩ := h
    rfl
  obtain ⟨S, b, p, cap, st, rfl, fr, bd, kE⟩ := h
  have pL := passes_call (X := SuX.cxS (L2.CX P w) P w K mg base n_xund "CappedMirror.undo" (defScope s_xund) f cda cc A outer s H E) (takes_of rfl rfl rfl rfl) (E := E) (fun _ _ _ _ h => h)
  refine ⟨_, SuX.pas_one (SuX.pa1_expr (SuX.px_sup sc_xund hh sk sm G hr bG .nil pL pa_nil (fun I hb h => SuX.cw_none sm.fi I hb h))), ?_⟩
  obtain ⟨dx, t0, w0, xs, hb, _⟩ := id bd.ex
  exact ⟨b, dx, _, rfl, hb, S, b, p, cap, st, rfl, fr, bd, kE⟩
end
end Q

set_option maxHeartbeats 1000000
namespace Q
open PySem PySem.Spec PyProof.Rows L2 Ca LamX
/-! ### _law_kinds, _law_is_new -/
abbrev s_lkd : Stmt := top 72
abbrev n_lkd : List PySem.Str := ["_law_book"]
theorem sc_lkd : FnScope n_lkd ["_law_book"] (defScope s_lkd) := ⟨rfl, rfl, rfl, by decide +kernel, rfl, by decide +kernel, by decide +kernel⟩
abbrev s_lnw : Stmt := top 73
abbrev n_lnw : List PySem.Str := ["_law_kind", "_law_book", "_law_listed_here", "_law_cap"]
theorem sc_lnw : FnScope n_lnw ["_law_kind", "_law_book", "_law_listed_here", "_law_cap"] (defScope s_lnw) := ⟨rfl, rfl, rfl, by decide +kernel, rfl, by decide +kernel, by decide +kernel⟩
def IKd (CB : Addr) (t1 t2 t3 : Bool) : Hp → List V → (Hp → V → Prop) → Prop := fun F vs P => ∃ b dx fs, vs = [.ref b] ∧ F b = some (.ins CB dx fs) ∧ P = fun H v => Rp H v (.list [.bool t1, .bool t2, .bool t3])
/-- a new book, as it must be -/
def spNew (CT CB : Addr) (kind : Nat) (Tb : List (Addr × PySem.Str)) : Sp := fun vs H Q _ => ∃ (S : Addr → Bool) (b p : Addr) (vl : V) (ks : List Ro) (cap : Int), vs = [.int (kind : Int), .ref b, vl, .int cap] ∧ Fr S H ∧ Tabs Tb H ∧ BD CT CB QE S b p (capK kind cap) ⟨ks, []⟩ [] H ∧ Rp (offS S H) vl (.list (ks.map roD)) ∧ 1 ≤ cap ∧ cap ≤ 10000 ∧ ∀ H', ExtN H H' → Tabs Tb H' → Fr S H' → Q (.bl true) H'
section
variable {P : Program} {w : World} {K : PySem.W.Frag} {mg : PySem.Str → Option Value} {base : Heap}
theorem ok_lkd {f CB CM CC CX : Addr} {fd : FuncData} {t1 t2 t3 : Bool} (F : FnP K "_law_kinds" s_lkd f fd) (T : Tx K mg) (cl : Cls K CB) (i1 : IsB K CB CM t1) (i2 : IsB K CB CC t2) (i3 : IsB K CB CX t3) (gM : mg "Mirrored" = some (.ref CM)) (gC : mg "Capped" = some (.ref CC)) (gX : mg "CappedMirror" = some (.ref CX)) :
    FnOk P w K mg base CX0 1 f fd ["_law_book"] (spQ (IKd CB t1 t2 t3)) := by
  refine F.ok sc_lkd (spQ_len (by rintro _ _ _ ⟨b, dx, fs, rfl, _⟩; rfl)) (fun cdv A outer s H vs Q E hr h => ?_)
  obtain ⟨S, P0, fr, ⟨b, dx, fs, rfl, hb, rfl⟩, q⟩ := h
  refine ⟨_, PSs.nox (pss_one (ps_ret (pe_lst (pa_cons (pe_callB (call_isi : CallR _ _ (rIsi K)) (by rfl) T.isi bIsi (pa_cons (pv 0) (pa_cons (pe_glob (v := .ref CM) rfl gM rfl) pa_nil))) (pa_cons (pe_callB (call_isi : CallR _ _ (rIsi K)) (by rfl) T.isi bIsi (pa_cons (pv 0) (pa_cons (pe_glob (v := .ref CC) rfl gC rfl) pa_nil))) (pa_cons (pe_callB (call_isi : CallR _ _ (rIsi K)) (by rfl) T.isi bIsi (pa_cons (pv 0) (pa_cons (pe_glob (v := .ref CX) rfl gX rfl) pa_nil))) pa_nil)))))), ?_⟩
  have gl : ∀ {C : Addr} {F : Hp} {σ : L2.St}, EvP (tC (.ref C)) σ F fun _ v => v = .ref C := fun S H1 f s Q q => q _ H1 (Same.refl _) rfl
  exact go_ret (P := fun H v => Rp H v (.list [.bool t1, .bool t2, .bool t3])) fr (e_lst (a_cons (e_isiB cl i1 rfl ⟨dx, fs, hb⟩ gl) (a_cons (e_isiB cl i2 rfl ⟨dx, fs, hb⟩ gl) (a_cons (e_isiB cl i3 rfl ⟨dx, fs, hb⟩ gl) a_nil)))) q
theorem b_try {σ : L2.St} {F : Hp} {i : Nat} {b CB : Addr} {E : XK} (h : σ[i]? = some (some (.ref b))) (hi : ∃ dx fs, F b = some (.ins CB dx fs) ∧ fs.lookup ("trying" : PySem.Str) = none) :
    EvB (tTest (tOp (fun x y H Q => y = .non ∧ Q (.bl (decide (x = .non))) H) (tMeth CB "trying" (spTry CB) [] E (tVar i) tNil) (tC .non))) σ F false := b_test fun S H1 f s Q q => by
  obtain ⟨dx, fs, hb, hl⟩ := hi
  have hb1 := offS_same _ _ (s _ _ hb)
  exact ⟨_, h, b, dx, fs, rfl, hb1, hl, b, dx, fs, rfl, hb1, fun t H' s' => ⟨rfl, q _ H' s' (by rw [decide_eq_false (fun z => by cases z)]; exact .bl false)⟩⟩
theorem go_ifOrF {S : Addr → Bool} {H : Hp} {D : L2.Ends} {σ : L2.St} {t1 t2 : L2.TT} {a b : TS} (f : Fr S H) (h : EvB t1 σ (offS S H) false) (k : ∀ H1, Same H H1 → tIfS t2 a b D σ H1) : tIfS (tOr t1 t2) a b D σ H := h S H f (Same.refl _) _ fun H1 s1 => by
  rw [if_neg (by decide)]
  exact k H1 s1
theorem ok_lnw {Tb : List (Addr × PySem.Str)} {kind : Nat} {kt ku : Nat} {f CT CB CBk ND fT fU fSd fSn fEq N0 N1 N2 N3 N4 N5 N6 N7 : Addr} {fd fdT fdU fdSd : FuncData} (k4 : kind < 4) (F : FnP K "_law_is_new" s_lnw f fd) (rc : isRefC K f = true) (TB : TabB base mg (codeAt K f) (tb0 K f)) (hmT : (tb0 K f, lamQ "_law_is_new") ∈ Tb) (huT : ∀ p ∈ Tb, p.1 = tb0 K f → p.2 = lamQ "_law_is_new") (T : Tx K mg)
    (c : BCl K CB) (is : IsB K CB CBk true) (gBk : mg "Book" = some (.ref CBk))
    (D_lkd : Fd P w K mg base "_law_kinds" 1 ["_law_book"] (spQ (IKd CB (decide (kind % 2 = 1)) (decide (2 ≤ kind)) (decide (kind = 3)))))
    (MT : Meth K CB "trying" fT) (kt10 : kt ≤ 10) (GT : FnOk P w K mg base (L2.CX P w) kt fT fdT ["self"] (spTry CB)) (bT : Binds K fdT ["self"] [])
    (MU : Meth K CB "undo" fU) (ku10 : ku ≤ 10) (GU : FnOk P w K mg base (L2.CX P w) ku fU fdU ["self"] (spUnd0 CT CB QE ND)) (bU : Binds K fdU ["self"] [])
    (D_ldu : Fd P w K mg base "_law_due" 2 ["_law_kind", "_law_listed_here", "_law_changes", "_law_words", "_law_cap"] (spR RLdu))
    (FSd : FnP K "_law_said" s_lsd fSd fdSd) (bSd : Binds K fdSd ["_law_call"] []) (kSd : PySem.W.keepIn K (.ref fSd) = true) (gSd : mg "_law_said" = some (.ref fSd)) (g0 : mg "NoKey" = some (.ref N0)) (g1 : mg "NoNumber" = some (.ref N1)) (g2 : mg "NoTable" = some (.ref N2)) (g3 : mg "NoQuestion" = some (.ref N3)) (g4 : mg "TooMuch" = some (.ref N4)) (g5 : mg "TooOften" = some (.ref N5)) (g6 : mg "NotMirrored" = some (.ref N6)) (g7 : mg "NothingDone" = some (.ref N7)) (fD : Fits K [(N0, "NoKey"), (N1, "NoNumber"), (N2, "NoTable"), (N3, "NoQuestion"), (N4, "TooMuch"), (N5, "TooOften"), (N6, "NotMirrored"), (N7, "NothingDone")] (.ref ND) "NothingDone")
    (G_lsn : FnG P w K mg base CX0 11 fSn (spSeenK CT CB kind (capK kind))) (k_lsn : PySem.W.keepIn K (.ref fSn) = true) (m_lsn : mg "_law_seen" = some (.ref fSn))
    (G_leq : FnG P w K mg base CX0 1 fEq spEq) (k_leq : PySem.W.keepIn K (.ref fEq) = true) (m_leq : mg "_law_is_equal" = some (.ref fEq)) : FnG P w K mg base CX0 15 f (spNew CT CB kind Tb) := by
  obtain ⟨f_lkd, fd_lkd, G_lkd, b_lkd, k_lkd, m_lkd⟩ := D_lkd.ex
  obtain ⟨f_ldu, fd_ldu, G_ldu, b_ldu, k_ldu, m_ldu⟩ := D_ldu.ex
  obtain ⟨ocS, odS, dVS, kVS, docS, pmS, anS, cdS, ctS, oslS, rfl, lkS, hcS, _, _⟩ := FSd.ex
  refine fng_ofC F sc_lnw rc (FunD.bindsA (ps := ["_law_kind", "_law_book", "_law_listed_here", "_law_cap"]) F fun _ _ _ _ _ _ us hl => match us, hl with | [_, _, _, _], _ => rfl) (fun vs H Q E h => ?_) (fun A outer s0 H vs Q E hg hr h => ?_)
  · obtain ⟨S, b, p, vl, ks, cap, rfl, _⟩ := h
    rfl
  obtain ⟨S, b, p, vl, ks, cap, rfl, fr, tT, bd, rl, c1, c9, q⟩ := h
  refine ⟨_, PSs.nox (pss_cons (ps_if (PW.pt (pw_or (pt_not (pt_val (pe_callB (call_isi : CallR _ _ (rIsi K)) (by rfl) T.isi bIsi (pa_cons (pv 1) (pa_cons (pe_glob (v := .ref CBk) rfl gBk rfl) pa_nil))))) (pw_or1 (pt_cmpR (op_neD hr.units : OpR _ _ (rNeD K)) (pe_call G_lkd (hr.mono (by decide)) rfl m_lkd k_lkd b_lkd .nil pass0 (pa_cons (pv 1) pa_nil)) (pe_lst (pa_cons (pe_cmpR op_eq (pe_op op_mod (pv 0) pe_int) pe_int (nomark _)) (pa_cons (pe_cmpR op_ge (pv 0) pe_int (nomark _)) (pa_cons (pe_cmpR op_eq (pv 0) pe_int (nomark _)) pa_nil)))) (nomark _))))) (pss_one (ps_ret pe_bl)) pss_nil)
      (pss_cons (ps_if (PW.pt (pw_or (pt_cmpR op_isN (pe_meth0 (pv 1) c.cl MT GT (hr.mono (by omega)) bT .nil (passes_call L2.takes0 (fun _ _ _ _ h => h))) pe_non (nomark _)) (pw_or (pt_cmpR op_isN (pe_meth0 (pv 1) c.cl MT GT (hr.mono (by omega)) bT .nil (passes_call L2.takes0 (fun _ _ _ _ h => h))) pe_non (nomark _)) (pw_or1 (pt_cmpR (op_neD hr.units : OpR _ _ (rNeD K)) (pe_lamcall (t := fun E => tMeth CB "undo" (spUnd0 CT CB QE ND) [] E (tVar 1) tNil) (k := 12) (c := codeAt K f) (P := tb0 K f) (T := Tb) (TT := TSaid K [(N0, "NoKey"), (N1, "NoNumber"), (N2, "NoTable"), (N3, "NoQuestion"), (N4, "TooMuch"), (N5, "TooOften"), (N6, "NotMirrored"), (N7, "NothingDone")]) rfl gSd kSd lkS hcS bSd sc_lsd rfl (.inl rfl) (said_gives g0 g1 g2 g3 g4 g5 g6 g7) TB (by rfl) hmT huT (hr.mono (by decide)) (lamS_by (sc := defScope s_lnw) (by decide +kernel)) (by rfl) (by intros; rfl) (fun A outer s H E f c' hr2 => pe_meth0 (pv 1) c.cl MU GU (hr2.mono (by omega)) bU .nil (passes_call (takes_of rfl rfl rfl rfl) (fun _ _ _ _ h => h)))) (pe_lst (pa_cons pe_str pa_nil)) (nomark _)))))) (pss_one (ps_ret pe_bl)) pss_nil)
      (pss_one (ps_ret (pe_callG G_leq hg (hr.mono (by decide)) rfl m_leq k_leq pass0 (pa_cons (pe_callG G_lsn hg (hr.mono (by decide)) rfl m_lsn k_lsn pass0 (pa_cons (pv 0) (pa_cons (pv 1) pa_nil))) (pa_cons (pe_call G_ldu (hr.mono (by decide)) rfl m_ldu k_ldu b_ldu .nil pass0 (pa_cons (pv 0) (pa_cons (pv 2) (pa_cons pe_int (pa_cons (pe_lst pa_nil) (pa_cons (pv 3) pa_nil)))))) pa_nil))))))), ?_⟩
  have tI : ∀ {F' : Hp} {σ : L2.St} {i : Int}, EvD (tC (.int i)) σ F' (.int i) := e_int
  have gl : ∀ {C : Addr} {F : Hp} {σ : L2.St}, EvP (tC (.ref C)) σ F fun _ v => v = .ref C := fun S H1 f s Q q => q _ H1 (Same.refl _) rfl
  have sk : SRo 12 ks := (bd.g ⟨ks, []⟩ (.head _)).sro
  have hin : ∀ {H'}, Same H H' → ∃ dx fs, offS (subS S b p) H' b = some (.ins CB dx fs) ∧ fs.lookup ("trying" : PySem.Str) = none := fun {H'} s => by
    obtain ⟨dx, fs, h1, h2⟩ := bd.ins
    exact ⟨dx, fs, by rw [offS_at subS_b]; exact s _ _ h1, h2 _ (by decide +kernel)⟩
  have fr1 : Fr (subS S b p) H := subS_fr fr
  have hl3 : EvD (tLst (tCons (tOp rEq (tOp (rI (fun _ j => 0 < j) fun i j => .int (i % j)) (tVar 0) (tC (.int 2))) (tC (.int 1))) (tCons (tOp (rI0 fun i j => .bl (decide (j ≤ i))) (tVar 0) (tC (.int 2))) (tCons (tOp rEq (tVar 0) (tC (.int 3))) tNil)))) [some (V.int (kind : Int)), some (V.ref b), some vl, some (V.int cap)] (offS (subS S b p) H) (.list [.bool (decide (kind % 2 = 1)), .bool (decide (2 ≤ kind)), .bool (decide (kind = 3))]) :=
    e_lst (a_cons (eqD (e_eqI (e_modI (e_var rfl (.int _)) tI (by decide)) tI) (congrArg PyData.bool (decide_eq_decide.mpr (by omega)))) (a_cons (eqD (e_cmp (e_var rfl (.int _)) tI) (congrArg PyData.bool (decide_eq_decide.mpr (by omega)))) (a_cons (eqD (e_eqI (e_var rfl (.int _)) tI) (congrArg PyData.bool (decide_eq_decide.mpr (by omega)))) a_nil)))
  have eqB : ∀ a b c : Bool, eqOk (.list [.bool a, .bool b, .bool c]) = true := by decide
  have eqS : ∀ a b c : Bool, (!PyData.eqv (.list [.bool a, .bool b, .bool c]) (.list [.bool a, .bool b, .bool c])) = false := by decide
  refine go_seq (go_ifF (S := subS S b p) fr1 (b_or (a := false) (b := false) (b_not (b := true) (b_val (e_isiB c.cl is rfl ((hin (Same.refl _)).imp fun _ z => z.imp fun _ y => y.1) gl))) fun _ => b_test (eqD (e_neD (e_call1 (P0 := fun F v => v = .ref b ∧ ∃ dx fs, F b = some (.ins CB dx fs)) (e_varP rfl fun F s => ⟨rfl, (hin (Same.refl _)).imp fun _ z => z.imp fun _ y => s _ _ y.1⟩) fun F v ⟨e, dx, fs, hb⟩ => ⟨b, dx, fs, by rw [e], hb, rfl⟩) hl3 (eqB _ _ _) (eqB _ _ _)) (congrArg PyData.bool (eqS _ _ _)))) fun H1 s1 f1 => ?_)
  refine go_seq (go_ifOrF (S := subS S b p) f1 (b_try rfl (hin s1)) fun H2 s2 => ?_)
  refine go_ifOrF (S := subS S b p) (f1.mono s2) (b_try rfl (hin (s1.trans s2))) fun H3 s3 => ?_
  have s03 := s1.trans (s2.trans s3)
  have bd3 := bd.same mon_qe s03
  have fr3 := fr.mono s03
  have nqD : eqOk (.list [.str "NothingDone"]) = true := nq_no (by decide +kernel)
  refine go_ifLF (S := S) (P := fun H v => Rp H v (.list [.str "NothingDone"])) (l_refused (tT.ext s03) fr3 fD fun H4 E Q' e4 f4 hE => ?_) (fun v' H4 e4 r4 => eqD (e_neD (e_tV r4) (e_lst (a_cons e_str a_nil)) nqD nqD) (by simp [PyData.eqv, PyData.eqvAll])) fun H4 e4 t4 f4 => ?_
  · have bd4 := bd3.ext mon_qe e4
    obtain ⟨dx, fs, hb, hm⟩ := bd4.ins
    exact ⟨_, rfl, b, dx, fs, rfl, hb, hm _ (by decide +kernel), S, b, p, _, _, rfl, f4, bd4, hE⟩
  have e04 := (ExtN.of s03).trans e4
  have bd4 := bd3.ext mon_qe e4
  have bv := bd4.read mon_qe
  have rl4 := Rp.ext (ext_off (S := S) e04) rl
  refine go_ret (S := subS S b p) (P := fun H v => Rp H v (.bool true)) (subS_fr f4) (e_eq (d := .list (seenD kind ks ((0 : Nat) : Int) cap)) (e_seenK (kind := kind) (cap := cap) (fc := capK kind) (st := ⟨ks, []⟩) (e_var rfl (.int _)) (e_varP rfl fun _ s => bv.mono mon_qe s)) (e_call (R := RLdu) (a_cons (e_var rfl (.int _)) (a_cons (e_var rfl (rl4.mono subS_off)) (a_cons tI (a_cons (e_lst a_nil) (a_cons (e_var rfl (.int _)) a_nil))))) ⟨kind, ks, _, cap, rfl, k4, sk, rfl⟩) (fit_seen k4 sk (by omega) (by omega) (by omega) (by omega))) fun v H5 s5 r5 => ?_
  cases r5
  exact q H5 (e04.trans (.of s5)) (t4.ext s5) (f4.mono s5)
end
end Q

set_option maxHeartbeats 1000000
namespace Q
open PySem PySem.Spec PyProof.Rows L2 Ca LamX
/-! ### _law_are_refused -/
abbrev s_lrr : Stmt := top 74
abbrev n_lrr : List PySem.Str := ["_law_source_here", "_law_odd", "_law_bad", "_law_said_here"]
theorem sc_lrr : FnScope n_lrr ["_law_source_here"] (defScope s_lrr) := ⟨rfl, rfl, rfl, by decide +kernel, rfl, by decide +kernel, by decide +kernel⟩
def DatP : Hp → V → Prop := fun F v => ∃ d, Rp F v d
theorem mon_dat : Mon DatP := fun _ _ _ s ⟨d, r⟩ => ⟨d, r.mono s⟩
/-- any of these data, drawn -/
theorem k_any {s : Addr} {σ : L2.St} {F : Hp} {tas : TA} {E : XK} {ds : List PyData} {i : Nat} (hi : σ[i]? = some (some (.ref s))) (h : EvA tas σ F ds) (n0 : 0 < ds.length) (n1 : ds.length ≤ 900) : EvK s (tCall spChoose [] E (tCons (tVar i) (tCons (tLst tas) tNil))) σ F DatP :=
  k_choose (n := ds.length) (P := DatP) hi (k_of (EvP.weak (e_lst h (by omega)) fun F v r => by
    cases r with
    | @lst l xs _ h r1 =>
      refine ⟨l, xs, rfl, h, r1.length, fun x hx => ?_⟩
      obtain ⟨n, hn, e⟩ := List.getElem_of_mem hx
      have hn2 : n < ds.length := by rw [← r1.length]; exact hn
      obtain ⟨y, hy, ry⟩ := r1.at (show ds[n]? = some ds[n] by simp [hn2])
      rw [List.getElem?_eq_getElem hn, e] at hy
      cases hy
      exact ⟨_, ry⟩)) mon_dat n0 (by omega)
section
variable {K : PySem.W.Frag} {S : Addr → Bool} {H : Hp} {p : Addr} {T : List (Addr × PySem.Str)} {σ : L2.St} {te : TE} {P : Hp → V → Prop} {D : L2.Ends} {u : TS} {d : PyData}
theorem off_none (h : H p = none) : offS S H p = none := by
  unfold offS
  split
  · rfl
  · exact h
/-- a list with what a call said -/
theorem go_lstL {i : Nat} (h : EvL T S te σ H fun F v => Rp F v d) (k : ∀ l v H2, ExtN H H2 → Tabs T H2 → Fr (addS S l) H2 → S l = false → H2 l = some (.lst [v]) → ExtN (offS S H) (offS (addS S l) H2) → Rp (offS (addS S l) H2) v d → u D (σ.set i (some (.ref l))) H2) :
    tSeq (tAsg (tLst (tCons te tNil)) (gName i)) u D σ H := h _ fun v H2 e2 t2 f2 pv => ⟨by show 1 ≤ sizeLine; decide, fun l hl => by
  have sn := same_new (o := .lst [v]) hl
  exact k l v _ (e2.trans (.of sn)) (t2.ext sn) ((f2.mono sn).add upd_same trivial) (f2.new hl) upd_same ((ext_off e2).trans (.of (addS_new (off_none hl) (offS_mono sn)))) (pv.mono (addS_new (off_none hl) (offS_mono sn)))⟩
/-- a list is appended to, behind which tables have grown -/
theorem go_appL {i : Nat} {l : Addr} {xs : List V} (hS : S l = true) (hv : σ[i]? = some (some (.ref l))) (hp : H l = some (.lst xs)) (hz : xs.length ≤ 900) (h : EvL T S te σ H fun F v => Rp F v d)
    (k : ∀ v H2, ExtN (offS S H) (offS S H2) → (∀ b, b ≠ l → ∀ o, H b = some o → (∀ ps, o ≠ .tbl ps) → H2 b = some o) → Tabs T H2 → Fr S H2 → H2 l = some (.lst (xs ++ [v])) → Rp (offS S H2) v d → D.nx σ H2) :
    tDrop (tBM K "list" rAppend (tVar i) (tCons te tNil)) D σ H := ⟨_, hv, .inl ⟨rfl, _, .inl (.inl hp)⟩, h _ fun v H2 e2 t2 f2 pv => by
  have hp2 : H2 l = some (.lst xs) := e2 _ _ hp (fun _ z => nomatch z)
  have off : Same (offS S H2) (offS S (upd H2 l (.lst (xs ++ [v])))) := fun b o e => by
    unfold offS at e ⊢
    split at e
    · cases e
    · rename_i hb
      rw [if_neg hb, upd_ne (fun z => hb (by rw [z]; exact hS))]
      exact e
  have kp : Kp l H2 (upd H2 l (.lst (xs ++ [v]))) := fun b o n e => by rw [upd_ne n]; exact e
  exact ⟨l, xs, v, rfl, rfl, hp2, small1000 (by omega), k v _ ((ext_off e2).trans (.of off)) (fun b n o e t => by rw [upd_ne n]; exact e2 _ _ e t) (tabs_kp t2 hp2 kp) (fun a ha => by
    by_cases z : a = l
    · rw [z]
      exact ⟨_, upd_same, trivial⟩
    · obtain ⟨o, e, m⟩ := f2 a ha
      exact ⟨o, by rw [upd_ne z]; exact e, m⟩) upd_same (pv.mono off)⟩⟩
end
def ntD : PyData := .list [.str "NoTable"]
def spRefd (Tb : List (Addr × PySem.Str)) : Sp := fun vs H Q _ => ∃ (S : Addr → Bool) (s : Addr), vs = [.ref s] ∧ Fr S H ∧ S s = true ∧ Src H s ∧ Tabs Tb H ∧ ∀ H', ExtN (offS S H) (offS S H') → Tabs Tb H' → Src H' s → Fr S H' → Q (.bl true) H'
section
variable {P : Program} {w : World} {K : PySem.W.Frag} {mg : PySem.Str → Option Value} {base : Heap}
theorem ok_lrr {Tb : List (Addr × PySem.Str)} {CK : Nat → Addr} {f CT NT NM NN NO fB fM fC fX fSd N0 N1 N2 N3 N4 N5 N6 N7 : Addr} {fd fdB fdM fdC fdX fdSd : FuncData} (F : FnP K "_law_are_refused" s_lrr f fd) (rc : isRefC K f = true) (TB : TabB base mg (codeAt K f) (tb0 K f)) (hmT : (tb0 K f, lamQ "_law_are_refused") ∈ Tb) (huT : ∀ p ∈ Tb, p.1 = tb0 K f → p.2 = lamQ "_law_are_refused") (T : Tx K mg)
    (MB : Mk K (CK 0) fB) (GB : FnOk P w K mg base (L2.CX P w) 10 fB fdB ["self", "table"] (spInitU CT (CK 0) QE NT (fun _ => none))) (bB : Binds K fdB ["self", "table"] []) (gB : mg "Book" = some (.ref (CK 0)))
    (MM : Mk K (CK 1) fM) (GM : FnOk P w K mg base (L2.CX P w) 10 fM fdM ["self", "table"] (spInitU CT (CK 1) QE NT (miChk NM (fun _ _ => none) none))) (bM : Binds K fdM ["self", "table"] []) (gM : mg "Mirrored" = some (.ref (CK 1)))
    (MC : Mk K (CK 2) fC) (GC : FnOk P w K mg base (L2.CX P w) 10 fC fdC ["self", "table", "most"] (spInitC CT (CK 2) QE NT NN (ofChk NO fun _ _ => none))) (bC : KBn K fdC ["self", "table", "most"] 2 ["most"] (fun us ws => us ++ ws) (fun vs zs => vs ++ zs)) (gC : mg "Capped" = some (.ref (CK 2)))
    (MX : Mk K (CK 3) fX) (GX : FnOk P w K mg base (L2.CX P w) 10 fX fdX ["self", "table", "most"] (spInitC CT (CK 3) QE NT NN (ofChk NO fun _ ks => miChk NM (fun _ _ => none) none ks))) (bX : Binds K fdX ["self", "table", "most"] []) (gX : mg "CappedMirror" = some (.ref (CK 3)))
    (D_chl : Fd P w K mg base "_law_choose" 2 ["_law_source_here", "_law_values"] spChoose)
    (FSd : FnP K "_law_said" s_lsd fSd fdSd) (bSd : Binds K fdSd ["_law_call"] []) (kSd : PySem.W.keepIn K (.ref fSd) = true) (gSd : mg "_law_said" = some (.ref fSd)) (g0 : mg "NoKey" = some (.ref N0)) (g1 : mg "NoNumber" = some (.ref N1)) (g2 : mg "NoTable" = some (.ref N2)) (g3 : mg "NoQuestion" = some (.ref N3)) (g4 : mg "TooMuch" = some (.ref N4)) (g5 : mg "TooOften" = some (.ref N5)) (g6 : mg "NotMirrored" = some (.ref N6)) (g7 : mg "NothingDone" = some (.ref N7)) (fT : Fits K [(N0, "NoKey"), (N1, "NoNumber"), (N2, "NoTable"), (N3, "NoQuestion"), (N4, "TooMuch"), (N5, "TooOften"), (N6, "NotMirrored"), (N7, "NothingDone")] (.ref NT) "NoTable") : FnG P w K mg base CX0 15 f (spRefd Tb) := by
  obtain ⟨f_chl, fd_chl, G_chl, b_chl, k_chl, m_chl⟩ := D_chl.ex
  obtain ⟨ocS, odS, dVS, kVS, docS, pmS, anS, cdS, ctS, oslS, rfl, lkS, hcS, _, _⟩ := FSd.ex
  refine fng_ofC F sc_lrr rc (FunD.bindsA (ps := ["_law_source_here"]) F fun _ _ _ _ _ _ us hl => match us, hl with | [_], _ => rfl) (fun vs H Q E h => ?_) (fun A outer s0 H vs Q E hg hr h => ?_)
  · obtain ⟨S, s, rfl, _⟩ := h
    rfl
  obtain ⟨S, s, rfl, fr, hS, hc, tT, q⟩ := h
  refine ⟨_, PSs.nox (pss_cons (ps_set (i := 1) sc_lrr.nd rfl (.inr rfl) (pe_call G_chl (hr.mono (by decide)) rfl m_chl k_chl b_chl .nil pass0 (pa_cons (pv 0) (pa_cons (pe_lst (pa_cons pe_non (pa_cons pe_int (pa_cons pe_bl (pa_cons pe_str (pa_cons (pe_tup (pa_cons (pe_tup (pa_cons pe_str (pa_cons pe_int (pa_cons pe_int (pa_cons pe_int pa_nil))))) pa_nil)) (pa_cons (pe_lst pa_nil) (pa_cons pe_dnewK (pa_cons (pe_tup pa_nil) pa_nil))))))))) pa_nil))))
      (pss_cons (ps_set (i := 2) sc_lrr.nd rfl (.inr rfl) (pe_call G_chl (hr.mono (by decide)) rfl m_chl k_chl b_chl .nil pass0 (pa_cons (pv 0) (pa_cons (pe_lst (pa_cons pe_int (pa_cons pe_non (pa_cons pe_int (pa_cons pe_bl (pa_cons pe_str pa_nil)))))) pa_nil))))
      (pss_cons (ps_set (i := 3) sc_lrr.nd rfl (.inl rfl) (pe_lst (pa_cons (pe_lamcall (t := fun E => tMake (CK 0) (spInitU CT (CK 0) QE NT (fun _ => none)) [] E (tCons (tVar 1) tNil)) (k := 12) (c := codeAt K f) (P := tb0 K f) (T := Tb) (TT := TSaid K [(N0, "NoKey"), (N1, "NoNumber"), (N2, "NoTable"), (N3, "NoQuestion"), (N4, "TooMuch"), (N5, "TooOften"), (N6, "NotMirrored"), (N7, "NothingDone")]) rfl gSd kSd lkS hcS bSd sc_lsd rfl (.inl rfl) (said_gives g0 g1 g2 g3 g4 g5 g6 g7) TB (by rfl) hmT huT (hr.mono (by decide)) (lamS_by (sc := defScope s_lrr) (by decide +kernel)) (by rfl) (by intros; rfl) (fun A outer s H E f c' hr2 => pe_make MB GB (hr2.mono (by omega)) rfl gB bB .nil (passes_call (takes_of rfl rfl rfl rfl) (fun _ _ _ _ h => h)) (pa_cons (pv 1) pa_nil))) pa_nil)))
      (pss_cons (ps_expr (pe_bm PySem.F.plainAttrs_list PySem.F.slot_list_append PySem.F.type_list_append mt_append (pv 3) (pa_cons (pe_lamcall (t := fun E => tMake (CK 1) (spInitU CT (CK 1) QE NT (miChk NM (fun _ _ => none) none)) [] E (tCons (tVar 1) tNil)) (k := 12) (c := codeAt K f) (P := tb0 K f) (T := Tb) (TT := TSaid K [(N0, "NoKey"), (N1, "NoNumber"), (N2, "NoTable"), (N3, "NoQuestion"), (N4, "TooMuch"), (N5, "TooOften"), (N6, "NotMirrored"), (N7, "NothingDone")]) rfl gSd kSd lkS hcS bSd sc_lsd rfl (.inl rfl) (said_gives g0 g1 g2 g3 g4 g5 g6 g7) TB (by rfl) hmT huT (hr.mono (by decide)) (lamS_by (sc := defScope s_lrr) (by decide +kernel)) (by rfl) (by intros; rfl) (fun A outer s H E f c' hr2 => pe_make MM GM (hr2.mono (by omega)) rfl gM bM .nil (passes_call (takes_of rfl rfl rfl rfl) (fun _ _ _ _ h => h)) (pa_cons (pv 1) pa_nil))) pa_nil)))
      (pss_cons (ps_expr (pe_bm PySem.F.plainAttrs_list PySem.F.slot_list_append PySem.F.type_list_append mt_append (pv 3) (pa_cons (pe_lamcall (t := fun E => tMakeN (CK 2) 1 (["most"] : List PySem.Str).length (spInitC CT (CK 2) QE NT NN (ofChk NO fun _ _ => none)) (fun vs zs => vs ++ zs) E (tCons (tVar 1) tNil) (tCons (tVar 2) tNil)) (k := 12) (c := codeAt K f) (P := tb0 K f) (T := Tb) (TT := TSaid K [(N0, "NoKey"), (N1, "NoNumber"), (N2, "NoTable"), (N3, "NoQuestion"), (N4, "TooMuch"), (N5, "TooOften"), (N6, "NotMirrored"), (N7, "NothingDone")]) rfl gSd kSd lkS hcS bSd sc_lsd rfl (.inl rfl) (said_gives g0 g1 g2 g3 g4 g5 g6 g7) TB (by rfl) hmT huT (hr.mono (by decide)) (lamS_by (sc := defScope s_lrr) (by decide +kernel)) (by rfl) (by intros; rfl) (fun A outer s H E f c' hr2 => pe_makeN MC GC (hr2.mono (by omega)) rfl gC bC (passes_call (takes_of rfl rfl rfl rfl) (fun _ _ _ _ h => h)) (pa_cons (pv 1) pa_nil) (pk_cons (pv 2) pk_nil))) pa_nil)))
      (pss_cons (ps_expr (pe_bm PySem.F.plainAttrs_list PySem.F.slot_list_append PySem.F.type_list_append mt_append (pv 3) (pa_cons (pe_lamcall (t := fun E => tMake (CK 3) (spInitC CT (CK 3) QE NT NN (ofChk NO fun _ ks => miChk NM (fun _ _ => none) none ks)) [] E (tCons (tVar 1) (tCons (tVar 2) tNil))) (k := 12) (c := codeAt K f) (P := tb0 K f) (T := Tb) (TT := TSaid K [(N0, "NoKey"), (N1, "NoNumber"), (N2, "NoTable"), (N3, "NoQuestion"), (N4, "TooMuch"), (N5, "TooOften"), (N6, "NotMirrored"), (N7, "NothingDone")]) rfl gSd kSd lkS hcS bSd sc_lsd rfl (.inl rfl) (said_gives g0 g1 g2 g3 g4 g5 g6 g7) TB (by rfl) hmT huT (hr.mono (by decide)) (lamS_by (sc := defScope s_lrr) (by decide +kernel)) (by rfl) (by intros; rfl) (fun A outer s H E f c' hr2 => pe_make MX GX (hr2.mono (by omega)) rfl gX bX .nil (passes_call (takes_of rfl rfl rfl rfl) (fun _ _ _ _ h => h)) (pa_cons (pv 1) (pa_cons (pv 2) pa_nil)))) pa_nil)))
      (pss_one (ps_ret (pe_cmpR (op_eqD hr.units : OpR _ _ (rEqD K)) (pv 3) (pe_op op_rep (pe_lst (pa_cons (pe_lst (pa_cons pe_str pa_nil)) pa_nil)) pe_int) (nomark _)))))))))), ?_⟩
  have tI : ∀ {F' : Hp} {σ : L2.St} {i : Int}, EvD (tC (.int i)) σ F' (.int i) := e_int
  refine go_setK (s := s) (S := S) (P := DatP) fr hS hc (k_any rfl (a_cons e_non (a_cons tI (a_cons e_bl (a_cons e_str (a_cons (e_tup (a_cons (e_tup (a_cons e_str (a_cons tI (a_cons tI (a_cons tI a_nil))))) a_nil)) (a_cons (e_lst a_nil) (a_cons e_dic (a_cons (e_tup a_nil) a_nil)))))))) (by decide) (by decide)) fun vo H1 k1 c1 f1 po => ?_
  refine go_setK (s := s) (S := S) (P := DatP) f1 hS c1 (k_any rfl (a_cons tI (a_cons e_non (a_cons tI (a_cons e_bl (a_cons e_str a_nil))))) (by decide) (by decide)) fun vb H2 k2 c2 f2 pb => ?_
  obtain ⟨d, ro⟩ := mon_dat _ _ _ (k2.off hS) po
  obtain ⟨db, rb⟩ := pb
  have t2 := tabs_src (tabs_src tT hc k1) c1 k2
  have o02 : Same (offS S H) (offS S H2) := (k1.trans k2).off hS
  refine go_lstL (S := S) (d := ntD) (l_refused t2 f2 fT fun H3 E Q' e3 f3 hE => mkU_no (S := S) (v := vo) (ks := []) (is := false) f3 .tab (fun Q q => ⟨_, rfl, q H3 (Same.refl _)⟩) (.inr ⟨rfl, .inl ⟨d, Rp.ext (ext_off e3) ro⟩⟩) hE) fun l v1 H3 e3 t3 f3 nl hl3 x3 r1 => ?_
  have sl : addS S l l = true := by simp [addS]
  have ls : s ≠ l := fun z => by rw [z, nl] at hS; cases hS
  have c3 := src_ext c2 e3
  have ro3 := Rp.ext x3 ro
  have rb3 := Rp.ext x3 rb
  have srcR : ∀ {H H' : Hp}, (∀ b, b ≠ l → ∀ o, H b = some o → (∀ ps, o ≠ .tbl ps) → H' b = some o) → Src H s → Src H' s := fun k ⟨x, y, z, e⟩ => ⟨x, y, z, k _ ls _ e fun _ w => nomatch w⟩
  refine go_seq (go_appL (S := addS S l) (l := l) (d := ntD) sl rfl hl3 (show 1 ≤ 900 by decide) (l_refused t3 f3 fT fun H4 E Q' e4 f4 hE => mkU_no (S := addS S l) (v := vo) (ks := []) (is := false) f4 .tab (fun Q q => ⟨_, rfl, q H4 (Same.refl _)⟩) (.inr ⟨rfl, .inl ⟨d, Rp.ext (ext_off e4) ro3⟩⟩) hE) fun v2 H4 x4 w4 t4 f4 hl4 r2 => ?_)
  refine go_seq (go_appL (S := addS S l) (l := l) (d := ntD) sl rfl hl4 (show 2 ≤ 900 by decide) (l_refused t4 f4 fT fun H5 E Q' e5 f5 hE => ?_) fun v3 H5 x5 w5 t5 f5 hl5 r3 => ?_)
  · exact ⟨_, rfl, _, rfl, rfl, rfl, mkC_no (S := addS S l) (H := H5) (ta := tV vo) (tb := tV vb) (σ := []) (v := vo) (vm := vb) (ks := []) (is := false) (dm := db) f5 .tab (fun Q q => q H5 (Same.refl _)) (fun H6 s6 Q q => q H6 (Same.refl _)) (Rp.ext (x4.trans (ext_off e5)) rb3) (.inr ⟨rfl, .inl ⟨d, Rp.ext (x4.trans (ext_off e5)) ro3⟩⟩) hE⟩
  refine go_seq (go_appL (S := addS S l) (l := l) (d := ntD) sl rfl hl5 (show 3 ≤ 900 by decide) (l_refused t5 f5 fT fun H6 E Q' e6 f6 hE => ?_) fun v4 H6 x6 w6 t6 f6 hl6 r4 => ?_)
  · exact mkC_no (S := addS S l) (H := H6) (v := vo) (vm := vb) (ks := []) (is := false) (dm := db) f6 .tab (fun Q q => ⟨_, rfl, q H6 (Same.refl _)⟩) (fun H7 s7 Q q => ⟨_, rfl, q H7 (Same.refl _)⟩) (Rp.ext ((x4.trans x5).trans (ext_off e6)) rb3) (.inr ⟨rfl, .inl ⟨d, Rp.ext ((x4.trans x5).trans (ext_off e6)) ro3⟩⟩) hE
  have f6' : Fr S H6 := fun a ha => f6 a (by simp [addS, ha])
  have c6 := srcR w6 (srcR w5 (srcR w4 c3))
  have off : ∀ {v : V}, Rp (offS (addS S l) H6) v ntD → Rp (offS S H6) v ntD := fun r => r.mono addS_off
  have rl : Rp (offS S H6) (.ref l) (.list [ntD, ntD, ntD, ntD]) := .lst (by rw [offS_at nl]; exact hl6) (.cons (off (Rp.ext ((x4.trans x5).trans x6) r1)) (.cons (off (Rp.ext (x5.trans x6) r2)) (.cons (off (Rp.ext x6 r3)) (.cons (off r4) .nil))))
  have nq : eqOk (.list [ntD, ntD, ntD, ntD]) = true := by decide +kernel
  refine go_ret (S := S) (P := fun H v => Rp H v (.bool true)) f6' (eqD (e_eqD (d := .list [ntD, ntD, ntD, ntD]) (e := .list [ntD, ntD, ntD, ntD]) (e_var rfl rl) (e_rep (k := 4) (ds := [ntD]) (e_lst (a_cons (e_lst (a_cons e_str a_nil)) a_nil)) tI (by decide) (by decide)) nq nq) (congrArg PyData.bool (by decide +kernel))) fun v H7 s7 r7 => ?_
  cases r7
  exact q H7 (((ExtN.of o02).trans x3).trans ((x4.trans x5).trans (x6.trans (.of (addS_off.trans (offS_mono s7)))))) (t6.ext s7) (src_same c6 s7) (f6'.mono s7)
end
end Q

set_option maxHeartbeats 2000000
namespace Q
open PySem PySem.Spec PyProof.Rows L2 Ca LamX
/-! ### the law -/
abbrev s_law : Stmt := top 75
abbrev n_law : List PySem.Str := ["_law_script", "_law_k", "_law_source_here", "_law_lap", "_law_kind", "_law_cap", "_law_listed_here", "_law_made_here"]
theorem sc_law : FnScope n_law ["_law_script"] (defScope s_law) := ⟨rfl, rfl, rfl, by decide +kernel, rfl, by decide +kernel, by decide +kernel⟩
def szN (j : Nat) : Nat := if j = 0 then 0 else if j = 1 then 2 else if j = 2 then 12 else 6
def spNewA (CT : Addr) (CK : Nat → Addr) (Tb : List (Addr × PySem.Str)) : Sp := fun vs H Q E => ∃ kind : Nat, kind < 4 ∧ spNew CT (CK kind) kind Tb vs H Q E
theorem fng_ex {P : Program} {w : World} {K : PySem.W.Frag} {mg : PySem.Str → Option Value} {base : Heap} {CX : CXT} {k : Nat} {f : Addr} {ι : Type} {sp : ι → Sp} (F : ∀ i, FnG P w K mg base CX k f (sp i)) : FnG P w K mg base CX k f (fun vs H Q E => ∃ i, sp i vs H Q E) :=
  fun A outer s H us vs Q E hg hr e r ⟨i, h⟩ => F i A outer s H us vs Q E hg hr e r h
section
variable {P : Program} {w : World} {K : PySem.W.Frag} {mg : PySem.Str → Option Value} {base : Heap}
theorem initC_okA {α : Type} {QP : α → Hp → V → Prop} {CT CB NT NN : Addr} {chk : Option Int → List Ro → Option Addr} {S : Addr → Bool} {H : Hp} {v : V} {ks : List Ro} {E : XK} {T : List (Addr × PySem.Str)} {s : Addr} {c : Int} {R : Addr → Hp → Prop} (f : Fr S H) (hc : Src H s) (tT : Tabs T H) (g : GoodT ks) (tv : TV CT ks (offS S H) v) (c1 : 1 ≤ c) (c9 : c ≤ 10000) (hk : chk (some c) ks = none)
    (k : ∀ b p H', Same (offS S H) (offS (addS (addS S b) p) H') → Same H H' → Tabs T H' → Src H' s → p ≠ s → b ≠ s → Fr (addS (addS S b) p) H' → BD CT CB QP (addS (addS S b) p) b p (some c) ⟨ks, []⟩ [] H' → R b H') :
    ∀ x dx, H x = none → H dx = none → dx ≠ x → spInitC CT CB QP NT NN chk [.ref x, v, .int c] (upd (upd H dx (.own x)) x (.ins CB dx [])) (fun v H2 => v = .non ∧ R x H2) E := initC_ok (Q := fun y H => match y with | .ref b => R b H | _ => True) f hc tT g tv c1 c9 hk k
theorem ok_lnwA {CT : Addr} {CK : Nat → Addr} {Tb : List (Addr × PySem.Str)} {f : Addr} {k : Nat} (h0 : FnG P w K mg base CX0 k f (spNew CT (CK 0) 0 Tb)) (h1 : FnG P w K mg base CX0 k f (spNew CT (CK 1) 1 Tb)) (h2 : FnG P w K mg base CX0 k f (spNew CT (CK 2) 2 Tb)) (h3 : FnG P w K mg base CX0 k f (spNew CT (CK 3) 3 Tb)) : FnG P w K mg base CX0 k f (spNewA CT CK Tb) :=
  fun A outer s H us vs Q E hg hr e r ⟨i, l, h⟩ => match i, l with
    | 0, _ => h0 A outer s H us vs Q E hg hr e r h
    | 1, _ => h1 A outer s H us vs Q E hg hr e r h
    | 2, _ => h2 A outer s H us vs Q E hg hr e r h
    | 3, _ => h3 A outer s H us vs Q E hg hr e r h
    | n + 4, l => absurd l (by omega)
theorem if_f {p q : Prop} (h : q) : if (!true) = true then p else q := by
  rw [if_neg (by decide)]
  exact h
theorem go_ifAndR {S : Addr → Bool} {H : Hp} {D : L2.Ends} {σ : L2.St} {t1 t2 : L2.TT} {a b : TS} {c : Bool} {R : Hp → Prop} (f : Fr S H) (h : EvB t1 σ (offS S H) c) (k0 : ∀ H', Same H H' → R H') (k1 : c = true → ∀ H', Same H H' → ∀ Q : Bool → Hp → Prop, (∀ H9, R H9 → Q false H9) → t2 σ H' Q) (k : ∀ H9, R H9 → b D σ H9) :
    tIfS (tAnd t1 t2) a b D σ H := h S H f (Same.refl _) _ fun H' s => by
  cases c with
  | true =>
    rw [if_pos rfl]
    exact k1 rfl H' s _ fun H9 r => by
      rw [if_neg (by decide)]
      exact k H9 r
  | false =>
    rw [if_neg (by decide)]
    exact k H' (k0 H' s)
theorem ok_law {Tb : List (Addr × PySem.Str)} {CK : Nat → Addr} {its1 its2 : List Value} {f CT NT NN NM NO NR fC fX fNw fRr fTx : Addr} {fd fdC fdX fdTx : FuncData} (F : FnP K "law" s_law f fd) (T : Tx K mg) (TQ : TT K mg CT NR)
    (D_cell : Fd P w K mg base "_law_cell" 1 ["_law_script", "_law_index"] (spCell K)) (D_src : Fd P w K mg base "_law_source" 1 ["_law_cell_here"] spSource) (D_dr : Fd P w K mg base "_law_draw" 1 ["_law_source_here", "_law_many"] spDraw)
    (D_lls : Fd P w K mg base "_law_listed" 4 ["_law_source_here", "_law_kind", "_law_size", "_law_cap"] spListed)
    (D_ltb : Fd P w K mg base "_law_table" 9 ["_law_listed_here"] (spQ (ILtb CT))) (D_ltx : Fd P w K mg base "_law_text" 1 ["_law_listed_here"] (spR RLtx))
    (D_lmd : Fd P w K mg base "_law_made" 12 ["_law_kind", "_law_made_here", "_law_cap"] (spMade CT CK QE Tb))
    (MC : Mk K (CK 2) fC) (GC : FnOk P w K mg base (L2.CX P w) 10 fC fdC ["self", "table", "most"] (spInitC CT (CK 2) QE NT NN (ofChk NO fun _ _ => none))) (bC1 : Binds K fdC ["self", "table", "most"] its1) (vdC : Vals [V.int 9] its1) (gC : mg "Capped" = some (.ref (CK 2)))
    (MX : Mk K (CK 3) fX) (GX : FnOk P w K mg base (L2.CX P w) 10 fX fdX ["self", "table", "most"] (spInitC CT (CK 3) QE NT NN (ofChk NO fun _ ks => miChk NM (fun _ _ => none) none ks))) (bX1 : Binds K fdX ["self", "table", "most"] its2) (vdX : Vals [V.int 9] its2) (gX : mg "CappedMirror" = some (.ref (CK 3)))
    (Gtext : FnOk P w K mg base CX0 2 fTx fdTx ["self"] (spQ (ITText CT))) (btext : Binds K fdTx ["self"] []) (Mtext : Meth K CT "text" fTx)
    (G_lnw : FnG P w K mg base CX0 15 fNw (spNewA CT CK Tb)) (k_lnw : PySem.W.keepIn K (.ref fNw) = true) (m_lnw : mg "_law_is_new" = some (.ref fNw))
    (G_lrr : FnG P w K mg base CX0 15 fRr (spRefd Tb)) (k_lrr : PySem.W.keepIn K (.ref fRr) = true) (m_lrr : mg "_law_are_refused" = some (.ref fRr)) : FnG P w K mg base CX0 17 f (spLawT K Tb) := by
  obtain ⟨f_cell, fd_cell, G_cell, b_cell, k_cell, m_cell⟩ := D_cell.ex
  obtain ⟨f_src, fd_src, G_src, b_src, k_src, m_src⟩ := D_src.ex
  obtain ⟨f_dr, fd_dr, G_dr, b_dr, k_dr, m_dr⟩ := D_dr.ex
  obtain ⟨f_lls, fd_lls, G_lls, b_lls, k_lls, m_lls⟩ := D_lls.ex
  obtain ⟨f_ltb, fd_ltb, G_ltb, b_ltb, k_ltb, m_ltb⟩ := D_ltb.ex
  obtain ⟨f_ltx, fd_ltx, G_ltx, b_ltx, k_ltx, m_ltx⟩ := D_ltx.ex
  obtain ⟨f_lmd, fd_lmd, G_lmd, b_lmd, k_lmd, m_lmd⟩ := D_lmd.ex
  refine fng_of F sc_law (FunD.bindsA (ps := ["_law_script"]) F fun _ _ _ _ _ _ us hl => match us, hl with | [_], _ => rfl) (fun vs H Q E h => ?_) (fun cdv A outer s0 H vs Q E hg hr h => ?_)
  · obtain ⟨a, ns, rfl, _⟩ := h
    rfl
  obtain ⟨a, ns, rfl, hS, h63, ht, q⟩ := h
  refine ⟨_, PSs.nox (pss_one (ps_try_thru0 (pss_cons (ps_for PassesOwn.never rfl (pi_range1 rfl T.range (pa_cons (pe_callB (call_max2 rfl) (by rfl) T.max bMax (pa_cons pe_int (pa_cons (pe_callB (call_min2 rfl) (by rfl) T.min bMin (pa_cons (pe_callB (call_lenQ : CallR _ _ (rLenQ K)) (by rfl) T.len bLen (pa_cons (pv 0) pa_nil)) (pa_cons pe_int pa_nil))) pa_nil))) pa_nil)) (pg_name (i := 1) sc_law.nd rfl (.inl rfl)) (pss_cons (ps_set (i := 2) sc_law.nd rfl (.inl rfl) (pe_call G_src (hr.mono (by decide)) rfl m_src k_src b_src .nil pass0 (pa_cons (pe_call G_cell (hr.mono (by decide)) rfl m_cell k_cell b_cell .nil pass0 (pa_cons (pv 0) (pa_cons (pv 1) pa_nil))) pa_nil)))
      (pss_one (ps_for PassesOwn.never rfl (pi_range1 rfl T.range (pa_cons pe_int pa_nil)) (pg_name (i := 3) sc_law.nd rfl (.inl rfl)) (pss_cons (ps_for PassesOwn.never rfl (pi_range1 rfl T.range (pa_cons pe_int pa_nil)) (pg_name (i := 4) sc_law.nd rfl (.inl rfl)) (pss_cons (ps_set (i := 5) sc_law.nd rfl (.inl rfl) (pe_op op_add pe_int (pe_call G_dr (hr.mono (by decide)) rfl m_dr k_dr b_dr .nil pass0 (pa_cons (pv 2) (pa_cons pe_int pa_nil)))))
      (pss_cons (ps_set (i := 6) sc_law.nd rfl (.inl rfl) (pe_call G_lls (hr.mono (by decide)) rfl m_lls k_lls b_lls .nil pass0 (pa_cons (pv 2) (pa_cons (pv 4) (pa_cons (pe_ix (ix_list : IxR _ (rIxL K)) (pe_lst (pa_cons pe_int (pa_cons pe_int (pa_cons pe_int (pa_cons pe_int pa_nil))))) (pv 3) (fun _ _ => rfl)) (pa_cons (pv 5) pa_nil))))))
      (pss_cons (ps_set (i := 7) sc_law.nd rfl (.inl rfl) (pe_call G_ltb (hr.mono (by decide)) rfl m_ltb k_ltb b_ltb .nil pass0 (pa_cons (pv 6) pa_nil)))
      (pss_cons (ps_if (pt_not (pt_val (pe_callG G_lnw hg (hr.mono (by decide)) rfl m_lnw k_lnw pass0 (pa_cons (pv 4) (pa_cons (pe_call G_lmd (hr.mono (by decide)) rfl m_lmd k_lmd b_lmd .nil pass0 (pa_cons (pv 4) (pa_cons (pv 7) (pa_cons (pv 5) pa_nil)))) (pa_cons (pv 6) (pa_cons (pv 5) pa_nil))))))) (pss_one (ps_ret pe_bl)) pss_nil)
      (pss_cons (ps_if (pt_cmpR op_ne (pe_meth0 (pv 7) TQ.cl Mtext Gtext (hr.mono (by decide)) btext .nil pass0) (pe_call G_ltx (hr.mono (by decide)) rfl m_ltx k_ltx b_ltx .nil pass0 (pa_cons (pv 6) pa_nil)) (nomark _)) (pss_one (ps_ret pe_bl)) pss_nil)
      (pss_cons (ps_if (PW.pt (pw_and (pt_cmpR op_eq (pv 4) pe_int (nomark _)) (pw_and1 (pt_not (pt_val (pe_callG G_lnw hg (hr.mono (by decide)) rfl m_lnw k_lnw pass0 (pa_cons pe_int (pa_cons (pe_make MC GC (hr.mono (by omega)) rfl gC bC1 vdC (passes_call L2.takes0 (fun _ _ _ _ h => h)) (pa_cons (pv 7) pa_nil)) (pa_cons (pv 6) (pa_cons pe_int pa_nil)))))))))) (pss_one (ps_ret pe_bl)) pss_nil)
      (pss_one (ps_if (PW.pt (pw_and (pt_cmpR op_eq (pv 4) pe_int (nomark _)) (pw_and1 (pt_not (pt_val (pe_callG G_lnw hg (hr.mono (by decide)) rfl m_lnw k_lnw pass0 (pa_cons pe_int (pa_cons (pe_make MX GX (hr.mono (by omega)) rfl gX bX1 vdX (passes_call L2.takes0 (fun _ _ _ _ h => h)) (pa_cons (pv 7) pa_nil)) (pa_cons (pv 6) (pa_cons pe_int pa_nil)))))))))) (pss_one (ps_ret pe_bl)) pss_nil)))))))))
      (pss_one (ps_if (pt_not (pt_val (pe_callG G_lrr hg (hr.mono (by decide)) rfl m_lrr k_lrr pass0 (pa_cons (pv 2) pa_nil)))) (pss_one (ps_ret pe_bl)) pss_nil)))))))
      (pss_one (ps_ret pe_bl))))), ?_⟩
  have tabs0 := tabs_nil ht
  have tI : ∀ {F' : Hp} {σ : L2.St} {i : Int}, EvD (tC (.int i)) σ F' (.int i) := e_int
  refine ⟨_, rfl, a, _, rfl, .inl hS, _, 3, rfl, 1, _, rfl, _, rfl, ?_, ?_, ?_⟩
  · split <;> split <;> omega
  · have l : (((ns.map V.int).length : Nat) : Int) ≤ 63 := by
      rw [List.length_map]
      omega
    split <;> split <;> omega
  generalize Int.toNat _ = nk
  refine for_range (lo := 0) (n := nk) (fun i σ H' => ∃ x1 x2 x3 x4 x5 x6 x7, σ = [some (V.ref a), x1, x2, x3, x4, x5, x6, x7] ∧ SqL K H' a (ns.map V.int) ∧ Tabs Tb H') ⟨none, none, none, none, none, none, none, rfl, hS, tabs0⟩ ?_ ?_
  · rintro i σ H' hi ⟨x1, x2, x3, x4, x5, x6, x7, rfl, sH, tH⟩
    refine ⟨_, rfl, _, rfl, a, ns, _, rfl, by omega, sH, fun z => ⟨z, rfl, fun p c1 c2 c3 hp => ?_⟩⟩
    have sc1 : SqL K (offS (frP p) (upd H' p (.lst [.int c1, .int c2, .int c3]))) a (ns.map V.int) := sql_off sH hp
    have t1 : Tabs Tb (upd H' p (.lst [.int c1, .int c2, .int c3])) := tabs_new tH hp
    have src1 : Src (upd H' p (.lst [.int c1, .int c2, .int c3])) p := ⟨c1, c2, c3, upd_same⟩
    generalize upd H' p (.lst [.int c1, .int c2, .int c3]) = H1 at sc1 t1 src1 ⊢
    have hSp : frP p p = true := frP_self p
    refine ⟨4, rfl, by decide, by decide, for_range (lo := 0) (n := 4) (fun j σ H2 => ∃ x3 x4 x5 x6 x7, σ = [some (V.ref a), some (V.int (0 + (i : Int))), some (V.ref p), x3, x4, x5, x6, x7] ∧ SqL K (offS (frP p) H2) a (ns.map V.int) ∧ Tabs Tb H2 ∧ Src H2 p)
      ⟨_, _, _, _, _, rfl, sc1, t1, src1⟩ ?_ ?_⟩
    · rintro j σ H2 hj ⟨x3, x4, x5, x6, x7, rfl, sc2, t2, src2⟩
      have m12 : szN j ≤ 12 := by
        match j, hj with
        | 0, _ => decide
        | 1, _ => decide
        | 2, _ => decide
        | 3, _ => decide
      have hsz : ∀ {σ : L2.St} {F' : Hp}, σ[3]? = some (some (.int (0 + (j : Int)))) → EvD (tOp (rIxL K) (tLst (tCons (tC (.int 0)) (tCons (tC (.int 2)) (tCons (tC (.int 12)) (tCons (tC (.int 6)) tNil))))) (tVar 3)) σ F' (.int ((szN j : Nat) : Int)) := fun e => e_ixL (n := j) (ds := [.int 0, .int 2, .int 12, .int 6]) (e_lst (a_cons tI (a_cons tI (a_cons tI (a_cons tI a_nil))))) (e_var e (.int _)) (by omega) (by
        match j, hj with
        | 0, _ => rfl
        | 1, _ => rfl
        | 2, _ => rfl
        | 3, _ => rfl)
      refine ⟨4, rfl, by decide, by decide, for_range (lo := 0) (n := 4) (fun κ σ H3 => ∃ x4 x5 x6 x7, σ = [some (V.ref a), some (V.int (0 + (i : Int))), some (V.ref p), some (V.int (0 + (j : Int))), x4, x5, x6, x7] ∧ SqL K (offS (frP p) H3) a (ns.map V.int) ∧ Tabs Tb H3 ∧ Src H3 p)
        ⟨_, _, _, _, rfl, sc2, t2, src2⟩ ?_ ?_⟩
      · rintro κ σ H3 hκ ⟨x4, x5, x6, x7, rfl, sc3, t3, src3⟩
        refine go_setK (s := p) (S := frP p) (P := IntP 1 9) (fr_src src3) hSp src3 ((k_add (k_int (lo := 1) (hi := 1) (by decide) (by decide)) (k_draw (m := 9) rfl tI (by decide) (by decide))).weak fun H v ⟨z, e, a, b⟩ => ⟨z, e, a, by omega⟩) fun v5 H4 k4 src4 fr4 p4 => ?_
        obtain ⟨cp, rfl, cp1, cp9⟩ := p4
        have t4 := tabs_src t3 src3 k4
        have sc4 := sql_mono sc3 (k4.off hSp)
        refine go_setK (s := p) (S := frP p) (P := LstP κ (szN j) cp) fr4 hSp src4 (k_listed (kind := κ) (m := szN j) (cap := cp) rfl (eqD (e_var rfl (.int _)) (by rw [Int.zero_add])) (hsz rfl) (e_var rfl (.int _)) m12 (by omega) (by omega)) fun v6 H5 k5 src5 fr5 p5 => ?_
        obtain ⟨ks, lk, rk⟩ := p5
        have sk : SRo 12 ks := lk.s.mono m12
        have t5 := tabs_src t4 src4 k5
        have sc5 := sql_mono sc4 (k5.off hSp)
        clear sc2 t2 src2 sc3 t3 src3 sc4 t4 src4 fr4 k4 k5
        refine go_setS (S := frP p) (P := TV CT ks) fr5 (e_call1 (P0 := fun H v => Rp H v (.list (ks.map roD))) (e_var rfl rk) fun F v r => ⟨v, ks, rfl, r, sk.good.a, by rw [sk.up]⟩) fun v7 H6 s6 fr6 tv6 => ?_
        have t6 := t5.ext s6
        have sc6 := sql_mono sc5 (offS_mono s6)
        have src6 := src_same src5 s6
        have rk6 := rk.mono (offS_mono (S := frP p) s6)
        have okk := okk_of m12 lk
        clear sc5 t5 src5 fr5
        have e0 : (0 : Int) + (κ : Int) = (κ : Int) := Int.zero_add _
        have srcE : ∀ {H7 H8 : Hp}, Src H7 p → ExtN H7 H8 → Src H8 p := fun s e => src_ext s e
        let R : Hp → Prop := fun H9 => ExtN (offS (frP p) H6) (offS (frP p) H9) ∧ Tabs Tb H9 ∧ Src H9 p
        have r_of : ∀ {H5 H7 H8 : Hp}, R H5 → Same H5 H7 → ExtN H7 H8 → Tabs Tb H8 → Src H7 p → R H8 := fun ⟨e, _, _⟩ s7 e8 t8 s => ⟨e.trans ((ExtN.of (offS_mono s7)).trans (ext_off e8)), t8, src_ext s e8⟩
        have r_same : ∀ {H5 H7 : Hp}, R H5 → Same H5 H7 → R H7 := fun ⟨e, t, s⟩ s7 => ⟨e.trans (.of (offS_mono s7)), t.ext s7, src_same s s7⟩
        have r6 : R H6 := ⟨ExtN.refl _, t6, src6⟩
        refine go_seq (⟨_, rfl, ⟨_, rfl, _, rfl, _, rfl, frP p, p, v7, ks, κ, cp, by rw [e0]; rfl, hκ, fr6, src6, t6, tv6, sk.good, okk, cp1, by omega, fun b pp H7 off7 s7 t7 src7 nps nbs fr7 bd7 => ⟨_, rfl, _, rfl, κ, hκ, _, b, pp, v6, ks, cp, by rw [e0]; rfl, fr7, t7, bd7, rk6.mono off7, cp1, by omega, fun H8 e8 t8 _ => ⟨true, rfl, ?_⟩⟩⟩⟩)
        have r8 : R H8 := r_of r6 s7 e8 t8 src7
        refine if_f ?_
        have tv8 := tv6.ext r8.1
        have rk8 := Rp.ext r8.1 rk6
        refine go_seq (go_ifF (S := frP p) (fr_src r8.2.2) (b_test (eqD (e_neS (i := txr ks) (j := txr ks) (e_meth0 (e_varP rfl fun _ s => tv8.mono s) (tv_text sk.g (by have := sk.l; omega))) (e_call (R := RLtx) (a_cons (e_var rfl rk8) a_nil) ⟨ks, rfl, sk.l, sk.g, by rw [sk.up]⟩)) (by simp))) fun H9 s9 _ => ?_)
        have r9 := r_same r8 s9
        have lc : ∀ {c : Int}, 9 ≤ c → ∀ a ∈ ks, a.n ≤ c := fun h a ha => by have := lk.c a ha; omega
        refine go_seq (go_ifAndR (R := R) (S := frP p) (c := decide ((0 : Int) + (κ : Int) = 2)) (fr_src r9.2.2) (b_test (e_eqI (e_var rfl (.int _)) tI)) (fun H' s' => r_same r9 s') (fun z H' s' Q' q' => ?_) fun H10 r10 => ?_)
        · have r' := r_same r9 s'
          have tv' := tv6.ext r'.1
          have rk' := Rp.ext r'.1 rk6
          exact ⟨_, rfl, initC_okA (c := 9) (s := p) (S := frP p) (fr_src r'.2.2) r'.2.2 r'.2.1 sk.good tv' (by decide) (by decide) (of_no (often_none (lc (by decide)))) fun b pp H7 off7 s7 t7 src7 nps nbs fr7 bd7 => ⟨_, rfl, 2, by decide, _, b, pp, v6, ks, 9, rfl, fr7, t7, bd7, rk'.mono off7, by decide, by decide, fun H8 e8 t8 _ => ⟨true, rfl, q' H8 (r_of r' s7 e8 t8 src7)⟩⟩⟩
        refine go_ifAndR (R := R) (S := frP p) (c := decide ((0 : Int) + (κ : Int) = 3)) (fr_src r10.2.2) (b_test (e_eqI (e_var rfl (.int _)) tI)) (fun H' s' => r_same r10 s') (fun z H' s' Q' q' => ?_) fun H11 r11 => ?_
        · have r' := r_same r10 s'
          have tv' := tv6.ext r'.1
          have rk' := Rp.ext r'.1 rk6
          have k3 : κ = 3 := by have := of_decide_eq_true z; omega
          exact ⟨_, rfl, initC_okA (c := 9) (s := p) (S := frP p) (fr_src r'.2.2) r'.2.2 r'.2.1 sk.good tv' (by decide) (by decide) ((of_no (often_none (lc (by decide)))).trans (mi_no (okk.m (by rw [k3])))) fun b pp H7 off7 s7 t7 src7 nps nbs fr7 bd7 => ⟨_, rfl, 3, by decide, _, b, pp, v6, ks, 9, rfl, fr7, t7, bd7, rk'.mono off7, by decide, by decide, fun H8 e8 t8 _ => ⟨true, rfl, q' H8 (r_of r' s7 e8 t8 src7)⟩⟩⟩
        exact ⟨_, _, _, _, rfl, sql_ext sc6 r11.1, r11.2.1, r11.2.2⟩
      · rintro σ H3 ⟨x4, x5, x6, x7, rfl, sc3, t3, src3⟩
        refine ⟨_, rfl, frP p, p, rfl, fr_src src3, hSp, src3, t3, fun H4 e4 t4 src4 _ => ⟨true, rfl, if_f ?_⟩⟩
        exact ⟨_, _, _, _, _, rfl, sql_ext sc3 e4, t4, src4⟩
    · rintro σ H2 ⟨x3, x4, x5, x6, x7, rfl, sc2, t2, src2⟩
      exact ⟨_, _, _, _, _, _, _, rfl, sql_mono sc2 offS_same, t2⟩
  · rintro σ H' ⟨x1, x2, x3, x4, x5, x6, x7, rfl, sH, tH⟩
    exact q H'
end
end Q

set_option maxHeartbeats 1000000
namespace Q
open PySem PySem.Spec PyProof.Rows L2 Ca
/-! ### what Mirrored tells of itself -/
section
variable {P : Program} {w : World} {K : PySem.W.Frag} {mg : PySem.Str → Option Value} {base : Heap}
theorem ok_lsnM {cnt : Empty → List Ro → Int} {f CT CB NT pQs fQs pTab fTab pCh fCh pCnt fCnt  fText fL fR : Addr} {fd fdQs fdTab fdCh fdCnt fdText fdL fdR : FuncData}  (F : FnP K "_law_seen" s_lsn f fd) (T : Tx K mg) (TQ : TT K mg CT NT) (c : BCl K CB)
    (hQs : PropOf K CB "questions" pQs fQs) (GQs : FnOk P w K mg base CX0 1 fQs fdQs ["self"] (spQ (IBQs CT CB QE))) (bQs : Binds K fdQs ["self"] [])
    (hTab : PropOf K CB "table" pTab fTab) (GTab : FnOk P w K mg base CX0 1 fTab fdTab ["self"] (spQ (IBTab CT CB QE))) (bTab : Binds K fdTab ["self"] [])
    (hCh : PropOf K CB "changes" pCh fCh) (GCh : FnOk P w K mg base CX0 1 fCh fdCh ["self"] (spQ (IBCh CT CB QE))) (bCh : Binds K fdCh ["self"] [])
    (hCnt : PropOf K CB "counts" pCnt fCnt) (GCnt : FnOk P w K mg base CX0 9 fCnt fdCnt ["self"] (spQ (IBCnt CT CB QE cnt))) (bCnt : Binds K fdCnt ["self"] []) 
    (Gtext : FnOk P w K mg base CX0 2 fText fdText ["self"] (spQ (ITText CT))) (btext : Binds K fdText ["self"] []) (Mtext : Meth K CT "text" fText)
    (hsL : PySem.W.findIn K (.ref CB) "__len__" = some (some (.ref fL))) (hfL : PySem.W.isFn K (.ref fL) = true) (GLen : FnOk P w K mg base CX0 3 fL fdL ["self"] (spQ (IBLen CT CB QE))) (bLen2 : Binds K fdL ["self"] [])
    (hsR : PySem.W.findIn K (.ref CB) "__repr__" = some (some (.ref fR))) (hfR : PySem.W.isFn K (.ref fR) = true) (GRep : FnOk P w K mg base CX0 3 fR fdR ["self"] (spQ (IBRep CT CB QE "Mirrored"))) (bRep : Binds K fdR ["self"] []) : FnG P w K mg base CX0 11 f (spSeenM CT CB) := by
  refine fng_of F sc_lsn (FunD.bindsA (ps := ["_law_kind", "_law_book"]) F fun _ _ _ _ _ _ us hl => match us, hl with | [_, _], _ => rfl) (fun vs H Q E h => ?_) (fun cdv A outer s0 H vs Q E hg hr h => ?_)
  · obtain ⟨S, b, p, cap, st, n, v, rfl, _⟩ := h
    rfl
  obtain ⟨S, b, p, cap, st, n, v, rfl, fr, bv, q⟩ := h
  refine ⟨_, PSs.nox (pss_cons (ps_set (i := 2) sc_lsn.nd rfl (.inl rfl) (pe_prop (pv 1) c.cl hQs GQs (hr.mono (by decide)) bQs .nil pass0 rfl))
      (pss_cons (ps_set (i := 3) sc_lsn.nd rfl (.inl rfl) (pe_lst (pa_cons (pe_meth0 (pe_prop (pv 1) c.cl hTab GTab (hr.mono (by decide)) bTab .nil pass0 rfl) TQ.cl Mtext Gtext (hr.mono (by decide)) btext .nil pass0) (pa_cons (pe_prop (pv 1) c.cl hCh GCh (hr.mono (by decide)) bCh .nil pass0 rfl) (pa_cons (pe_callB (call_lenO hsL hfL GLen bLen2 (hr.mono (by decide)) : CallR _ _ (rLenO CB (spQ (IBLen CT CB QE)))) (by rfl) T.len bLen (pa_cons (pv 1) pa_nil)) (pa_cons (pe_callB (call_reprA T.sm hg hsR hfR GRep bRep (hr.mono (by decide)) : CallR _ _ (rReprA CB (spQ (IBRep CT CB QE "Mirrored")))) (by rfl) T.repr bRepr (pa_cons (pv 1) pa_nil)) (pa_cons (pe_callB (call_isi : CallR _ _ (rIsi K)) (by rfl) T.isi bIsi (pa_cons (pv 2) (pa_cons (pe_bltn (v := .ty "tuple") (by rfl) T.tup bTup rfl) pa_nil))) pa_nil)))))))
      (pss_cons (ps_set (i := 3) sc_lsn.nd rfl (.inl rfl) (pe_op op_cat (pv 3) (pe_lst (pa_cons (pe_lc (own := [("_law_one", 4)]) (g := gName 4) rfl sc_lsn.nd (pi_tupQ (K := K) rfl (pv 2)) (blkOk_by (own := [("_law_one", 4)]) (N := n_lsn) (sc := (defScope s_lsn)) (by decide +kernel)) (fun _ _ _ _ _ => (pg_name (i := 4) sc_lsn.nd rfl (Or.inl rfl))) (fun _ _ _ _ _ => pts_nil) (fun _ _ _ _ _ => pe_never)) (pa_cons (pe_prop (pv 1) c.cl hCnt GCnt (hr.mono (by decide)) bCnt .nil pass0 rfl) pa_nil)))))
      (pss_one (ps_ret (pe_ifExp (pt_cmpR op_ge (pv 0) pe_int (nomark _)) (pe_op op_cat (pv 3) (pe_lst (pa_cons pe_never pa_nil))) (pv 3))))))), ?_⟩
  have lk := (bv.g.sro).l
  have gk := (bv.g.sro).g
  have tI : ∀ {F' : Hp} {σ : L2.St} {i : Int}, EvD (tC (.int i)) σ F' (.int i) := e_int
  refine go_setS (S := S) (P := fun H v => Rp H v (.tuple [])) fr (EvP.weak (e_prop (e_varP (P := BV CT CB QE b p none st n) rfl fun _ s => bv.mono mon_qe s) bv_qs) fun F v r => wv_nil r) fun v2 H1 s1 fr1 r2 => ?_
  have bvv : ∀ {σ : L2.St} {F : Hp}, Same (offS S H1) F → σ[1]? = some (some v) → EvP (tVar 1) σ F (BV CT CB QE b p none st n) := fun sm e => e_varP e fun _ s => bv.mono mon_qe (((offS_mono s1).trans sm).trans s)
  refine go_setS (S := S) (P := fun H v => Rp H v (.list [.str (txr st.ks), .int (n : Int), .int (st.ks.length : Int), .str (bsay "Mirrored" st.ks.length), .bool true])) fr1 (e_lst (a_cons (e_meth0 (e_prop (bvv (Same.refl _) rfl) bv_tab) (tv_text gk (by omega))) (a_cons (e_prop (bvv (Same.refl _) rfl) bv_ch) (a_cons (e_lenB (bvv (Same.refl _) rfl) (by omega)) (a_cons (e_reprB (bvv (Same.refl _) rfl)) (a_cons (e_isiK (K := K) (n := "tuple") (fun _ => kTup (.tuple [])) (e_var rfl r2)) a_nil)))))) fun v3 H2 s2 fr2 r3 => ?_
  refine go_setS (S := S) (P := fun H v => Rp H v (.list [.str (txr st.ks), .int (n : Int), .int (st.ks.length : Int), .str (bsay "Mirrored" st.ks.length), .bool true, .list [], .tuple []])) fr2 (e_cat (e_var rfl r3) (e_lst (ds := [.list [], .tuple []]) (a_cons (e_lcT (K := K) (enc := id) (as := []) (b := fun _ => true) (ev := id) (e_var rfl (r2.mono (offS_mono (S := S) s2))) (Nat.zero_le _) fun d hd => by cases hd) (a_cons (EvP.weak (P := fun H v => Rp H v (.tuple (st.qs.map fun q => .int (cnt q st.ks)))) (e_prop (bvv (offS_mono s2) rfl) (bv_cnt (cnt := cnt))) fun F v r => by
    have e := nil_qs st.qs
    rw [e] at r
    exact r) a_nil))) (by simp)) fun v4 H3 s3 fr3 r4 => ?_
  refine go_ret (P := fun H v => Rp H v (.list (seenD 1 st.ks (n : Int) cap))) fr3 (e_ifP (b := decide ((2 : Int) ≤ ((1 : Nat) : Int))) (b_test (e_cmp (g := fun i j => decide (j ≤ i)) (e_var rfl (.int _)) tI)) (fun z => ?_) fun z => ?_) fun v H4 s4 r => q v H4 (s1.trans (s2.trans (s3.trans s4))) r
  · cases z
  · exact eqD (e_var rfl r4) rfl
end
end Q

set_option maxHeartbeats 1000000
namespace Q
open PySem PySem.Spec PyProof.Rows L2 Ca
/-! ### what Capped tells of itself -/
section
variable {P : Program} {w : World} {K : PySem.W.Frag} {mg : PySem.Str → Option Value} {base : Heap}
theorem ok_lsnC {cnt : Empty → List Ro → Int} {f CT CB NT pQs fQs pTab fTab pCh fCh pCnt fCnt pMost fMost fText fL fR : Addr} {fd fdQs fdTab fdCh fdCnt fdText fdL fdR : FuncData} {fdMost : FuncData} (F : FnP K "_law_seen" s_lsn f fd) (T : Tx K mg) (TQ : TT K mg CT NT) (c : BCl K CB)
    (hQs : PropOf K CB "questions" pQs fQs) (GQs : FnOk P w K mg base CX0 1 fQs fdQs ["self"] (spQ (IBQs CT CB QE))) (bQs : Binds K fdQs ["self"] [])
    (hTab : PropOf K CB "table" pTab fTab) (GTab : FnOk P w K mg base CX0 1 fTab fdTab ["self"] (spQ (IBTab CT CB QE))) (bTab : Binds K fdTab ["self"] [])
    (hCh : PropOf K CB "changes" pCh fCh) (GCh : FnOk P w K mg base CX0 1 fCh fdCh ["self"] (spQ (IBCh CT CB QE))) (bCh : Binds K fdCh ["self"] [])
    (hCnt : PropOf K CB "counts" pCnt fCnt) (GCnt : FnOk P w K mg base CX0 9 fCnt fdCnt ["self"] (spQ (IBCnt CT CB QE cnt))) (bCnt : Binds K fdCnt ["self"] []) (hMost : PropOf K CB "most" pMost fMost) (GMost : FnOk P w K mg base CX0 1 fMost fdMost ["self"] (spQ (IBMost CT CB QE))) (bMost : Binds K fdMost ["self"] [])
    (Gtext : FnOk P w K mg base CX0 2 fText fdText ["self"] (spQ (ITText CT))) (btext : Binds K fdText ["self"] []) (Mtext : Meth K CT "text" fText)
    (hsL : PySem.W.findIn K (.ref CB) "__len__" = some (some (.ref fL))) (hfL : PySem.W.isFn K (.ref fL) = true) (GLen : FnOk P w K mg base CX0 3 fL fdL ["self"] (spQ (IBLen CT CB QE))) (bLen2 : Binds K fdL ["self"] [])
    (hsR : PySem.W.findIn K (.ref CB) "__repr__" = some (some (.ref fR))) (hfR : PySem.W.isFn K (.ref fR) = true) (GRep : FnOk P w K mg base CX0 3 fR fdR ["self"] (spQ (IBRep CT CB QE "Capped"))) (bRep : Binds K fdR ["self"] []) : FnG P w K mg base CX0 11 f (spSeenC CT CB) := by
  refine fng_of F sc_lsn (FunD.bindsA (ps := ["_law_kind", "_law_book"]) F fun _ _ _ _ _ _ us hl => match us, hl with | [_, _], _ => rfl) (fun vs H Q E h => ?_) (fun cdv A outer s0 H vs Q E hg hr h => ?_)
  · obtain ⟨S, b, p, cap, st, n, v, rfl, _⟩ := h
    rfl
  obtain ⟨S, b, p, cap, st, n, v, rfl, fr, bv, q⟩ := h
  refine ⟨_, PSs.nox (pss_cons (ps_set (i := 2) sc_lsn.nd rfl (.inl rfl) (pe_prop (pv 1) c.cl hQs GQs (hr.mono (by decide)) bQs .nil pass0 rfl))
      (pss_cons (ps_set (i := 3) sc_lsn.nd rfl (.inl rfl) (pe_lst (pa_cons (pe_meth0 (pe_prop (pv 1) c.cl hTab GTab (hr.mono (by decide)) bTab .nil pass0 rfl) TQ.cl Mtext Gtext (hr.mono (by decide)) btext .nil pass0) (pa_cons (pe_prop (pv 1) c.cl hCh GCh (hr.mono (by decide)) bCh .nil pass0 rfl) (pa_cons (pe_callB (call_lenO hsL hfL GLen bLen2 (hr.mono (by decide)) : CallR _ _ (rLenO CB (spQ (IBLen CT CB QE)))) (by rfl) T.len bLen (pa_cons (pv 1) pa_nil)) (pa_cons (pe_callB (call_reprA T.sm hg hsR hfR GRep bRep (hr.mono (by decide)) : CallR _ _ (rReprA CB (spQ (IBRep CT CB QE "Capped")))) (by rfl) T.repr bRepr (pa_cons (pv 1) pa_nil)) (pa_cons (pe_callB (call_isi : CallR _ _ (rIsi K)) (by rfl) T.isi bIsi (pa_cons (pv 2) (pa_cons (pe_bltn (v := .ty "tuple") (by rfl) T.tup bTup rfl) pa_nil))) pa_nil)))))))
      (pss_cons (ps_set (i := 3) sc_lsn.nd rfl (.inl rfl) (pe_op op_cat (pv 3) (pe_lst (pa_cons (pe_lc (own := [("_law_one", 4)]) (g := gName 4) rfl sc_lsn.nd (pi_tupQ (K := K) rfl (pv 2)) (blkOk_by (own := [("_law_one", 4)]) (N := n_lsn) (sc := (defScope s_lsn)) (by decide +kernel)) (fun _ _ _ _ _ => (pg_name (i := 4) sc_lsn.nd rfl (Or.inl rfl))) (fun _ _ _ _ _ => pts_nil) (fun _ _ _ _ _ => pe_never)) (pa_cons (pe_prop (pv 1) c.cl hCnt GCnt (hr.mono (by decide)) bCnt .nil pass0 rfl) pa_nil)))))
      (pss_one (ps_ret (pe_ifExp (pt_cmpR op_ge (pv 0) pe_int (nomark _)) (pe_op op_cat (pv 3) (pe_lst (pa_cons (pe_prop (pv 1) c.cl hMost GMost (hr.mono (by decide)) bMost .nil pass0 rfl) pa_nil))) (pv 3))))))), ?_⟩
  have lk := (bv.g.sro).l
  have gk := (bv.g.sro).g
  have tI : ∀ {F' : Hp} {σ : L2.St} {i : Int}, EvD (tC (.int i)) σ F' (.int i) := e_int
  refine go_setS (S := S) (P := fun H v => Rp H v (.tuple [])) fr (EvP.weak (e_prop (e_varP (P := BV CT CB QE b p (some cap) st n) rfl fun _ s => bv.mono mon_qe s) bv_qs) fun F v r => wv_nil r) fun v2 H1 s1 fr1 r2 => ?_
  have bvv : ∀ {σ : L2.St} {F : Hp}, Same (offS S H1) F → σ[1]? = some (some v) → EvP (tVar 1) σ F (BV CT CB QE b p (some cap) st n) := fun sm e => e_varP e fun _ s => bv.mono mon_qe (((offS_mono s1).trans sm).trans s)
  refine go_setS (S := S) (P := fun H v => Rp H v (.list [.str (txr st.ks), .int (n : Int), .int (st.ks.length : Int), .str (bsay "Capped" st.ks.length), .bool true])) fr1 (e_lst (a_cons (e_meth0 (e_prop (bvv (Same.refl _) rfl) bv_tab) (tv_text gk (by omega))) (a_cons (e_prop (bvv (Same.refl _) rfl) bv_ch) (a_cons (e_lenB (bvv (Same.refl _) rfl) (by omega)) (a_cons (e_reprB (bvv (Same.refl _) rfl)) (a_cons (e_isiK (K := K) (n := "tuple") (fun _ => kTup (.tuple [])) (e_var rfl r2)) a_nil)))))) fun v3 H2 s2 fr2 r3 => ?_
  refine go_setS (S := S) (P := fun H v => Rp H v (.list [.str (txr st.ks), .int (n : Int), .int (st.ks.length : Int), .str (bsay "Capped" st.ks.length), .bool true, .list [], .tuple []])) fr2 (e_cat (e_var rfl r3) (e_lst (ds := [.list [], .tuple []]) (a_cons (e_lcT (K := K) (enc := id) (as := []) (b := fun _ => true) (ev := id) (e_var rfl (r2.mono (offS_mono (S := S) s2))) (Nat.zero_le _) fun d hd => by cases hd) (a_cons (EvP.weak (P := fun H v => Rp H v (.tuple (st.qs.map fun q => .int (cnt q st.ks)))) (e_prop (bvv (offS_mono s2) rfl) (bv_cnt (cnt := cnt))) fun F v r => by
    have e := nil_qs st.qs
    rw [e] at r
    exact r) a_nil))) (by simp)) fun v4 H3 s3 fr3 r4 => ?_
  refine go_ret (P := fun H v => Rp H v (.list (seenD 2 st.ks (n : Int) cap))) fr3 (e_ifP (b := decide ((2 : Int) ≤ ((2 : Nat) : Int))) (b_test (e_cmp (g := fun i j => decide (j ≤ i)) (e_var rfl (.int _)) tI)) (fun z => ?_) fun z => ?_) fun v H4 s4 r => q v H4 (s1.trans (s2.trans (s3.trans s4))) r
  · exact eqD (e_cat (e_var rfl r4) (e_lst (ds := [.int cap]) (a_cons (e_prop (bvv (Same.trans (offS_mono s2) (offS_mono s3)) rfl) bv_most) a_nil)) (by simp)) rfl
  · cases z
end
end Q

set_option maxHeartbeats 1000000
namespace Q
open PySem PySem.Spec PyProof.Rows L2 Ca
/-! ### what CappedMirror tells of itself -/
section
variable {P : Program} {w : World} {K : PySem.W.Frag} {mg : PySem.Str → Option Value} {base : Heap}
theorem ok_lsnX {cnt : Empty → List Ro → Int} {f CT CB NT pQs fQs pTab fTab pCh fCh pCnt fCnt pMost fMost fText fL fR : Addr} {fd fdQs fdTab fdCh fdCnt fdText fdL fdR : FuncData} {fdMost : FuncData} (F : FnP K "_law_seen" s_lsn f fd) (T : Tx K mg) (TQ : TT K mg CT NT) (c : BCl K CB)
    (hQs : PropOf K CB "questions" pQs fQs) (GQs : FnOk P w K mg base CX0 1 fQs fdQs ["self"] (spQ (IBQs CT CB QE))) (bQs : Binds K fdQs ["self"] [])
    (hTab : PropOf K CB "table" pTab fTab) (GTab : FnOk P w K mg base CX0 1 fTab fdTab ["self"] (spQ (IBTab CT CB QE))) (bTab : Binds K fdTab ["self"] [])
    (hCh : PropOf K CB "changes" pCh fCh) (GCh : FnOk P w K mg base CX0 1 fCh fdCh ["self"] (spQ (IBCh CT CB QE))) (bCh : Binds K fdCh ["self"] [])
    (hCnt : PropOf K CB "counts" pCnt fCnt) (GCnt : FnOk P w K mg base CX0 9 fCnt fdCnt ["self"] (spQ (IBCnt CT CB QE cnt))) (bCnt : Binds K fdCnt ["self"] []) (hMost : PropOf K CB "most" pMost fMost) (GMost : FnOk P w K mg base CX0 1 fMost fdMost ["self"] (spQ (IBMost CT CB QE))) (bMost : Binds K fdMost ["self"] [])
    (Gtext : FnOk P w K mg base CX0 2 fText fdText ["self"] (spQ (ITText CT))) (btext : Binds K fdText ["self"] []) (Mtext : Meth K CT "text" fText)
    (hsL : PySem.W.findIn K (.ref CB) "__len__" = some (some (.ref fL))) (hfL : PySem.W.isFn K (.ref fL) = true) (GLen : FnOk P w K mg base CX0 3 fL fdL ["self"] (spQ (IBLen CT CB QE))) (bLen2 : Binds K fdL ["self"] [])
    (hsR : PySem.W.findIn K (.ref CB) "__repr__" = some (some (.ref fR))) (hfR : PySem.W.isFn K (.ref fR) = true) (GRep : FnOk P w K mg base CX0 3 fR fdR ["self"] (spQ (IBRep CT CB QE "CappedMirror"))) (bRep : Binds K fdR ["self"] []) : FnG P w K mg base CX0 11 f (spSeenX CT CB) := by
  refine fng_of F sc_lsn (FunD.bindsA (ps := ["_law_kind", "_law_book"]) F fun _ _ _ _ _ _ us hl => match us, hl with | [_, _], _ => rfl) (fun vs H Q E h => ?_) (fun cdv A outer s0 H vs Q E hg hr h => ?_)
  · obtain ⟨S, b, p, cap, st, n, v, rfl, _⟩ := h
    rfl
  obtain ⟨S, b, p, cap, st, n, v, rfl, fr, bv, q⟩ := h
  refine ⟨_, PSs.nox (pss_cons (ps_set (i := 2) sc_lsn.nd rfl (.inl rfl) (pe_prop (pv 1) c.cl hQs GQs (hr.mono (by decide)) bQs .nil pass0 rfl))
      (pss_cons (ps_set (i := 3) sc_lsn.nd rfl (.inl rfl) (pe_lst (pa_cons (pe_meth0 (pe_prop (pv 1) c.cl hTab GTab (hr.mono (by decide)) bTab .nil pass0 rfl) TQ.cl Mtext Gtext (hr.mono (by decide)) btext .nil pass0) (pa_cons (pe_prop (pv 1) c.cl hCh GCh (hr.mono (by decide)) bCh .nil pass0 rfl) (pa_cons (pe_callB (call_lenO hsL hfL GLen bLen2 (hr.mono (by decide)) : CallR _ _ (rLenO CB (spQ (IBLen CT CB QE)))) (by rfl) T.len bLen (pa_cons (pv 1) pa_nil)) (pa_cons (pe_callB (call_reprA T.sm hg hsR hfR GRep bRep (hr.mono (by decide)) : CallR _ _ (rReprA CB (spQ (IBRep CT CB QE "CappedMirror")))) (by rfl) T.repr bRepr (pa_cons (pv 1) pa_nil)) (pa_cons (pe_callB (call_isi : CallR _ _ (rIsi K)) (by rfl) T.isi bIsi (pa_cons (pv 2) (pa_cons (pe_bltn (v := .ty "tuple") (by rfl) T.tup bTup rfl) pa_nil))) pa_nil)))))))
      (pss_cons (ps_set (i := 3) sc_lsn.nd rfl (.inl rfl) (pe_op op_cat (pv 3) (pe_lst (pa_cons (pe_lc (own := [("_law_one", 4)]) (g := gName 4) rfl sc_lsn.nd (pi_tupQ (K := K) rfl (pv 2)) (blkOk_by (own := [("_law_one", 4)]) (N := n_lsn) (sc := (defScope s_lsn)) (by decide +kernel)) (fun _ _ _ _ _ => (pg_name (i := 4) sc_lsn.nd rfl (Or.inl rfl))) (fun _ _ _ _ _ => pts_nil) (fun _ _ _ _ _ => pe_never)) (pa_cons (pe_prop (pv 1) c.cl hCnt GCnt (hr.mono (by decide)) bCnt .nil pass0 rfl) pa_nil)))))
      (pss_one (ps_ret (pe_ifExp (pt_cmpR op_ge (pv 0) pe_int (nomark _)) (pe_op op_cat (pv 3) (pe_lst (pa_cons (pe_prop (pv 1) c.cl hMost GMost (hr.mono (by decide)) bMost .nil pass0 rfl) pa_nil))) (pv 3))))))), ?_⟩
  have lk := (bv.g.sro).l
  have gk := (bv.g.sro).g
  have tI : ∀ {F' : Hp} {σ : L2.St} {i : Int}, EvD (tC (.int i)) σ F' (.int i) := e_int
  refine go_setS (S := S) (P := fun H v => Rp H v (.tuple [])) fr (EvP.weak (e_prop (e_varP (P := BV CT CB QE b p (some cap) st n) rfl fun _ s => bv.mono mon_qe s) bv_qs) fun F v r => wv_nil r) fun v2 H1 s1 fr1 r2 => ?_
  have bvv : ∀ {σ : L2.St} {F : Hp}, Same (offS S H1) F → σ[1]? = some (some v) → EvP (tVar 1) σ F (BV CT CB QE b p (some cap) st n) := fun sm e => e_varP e fun _ s => bv.mono mon_qe (((offS_mono s1).trans sm).trans s)
  refine go_setS (S := S) (P := fun H v => Rp H v (.list [.str (txr st.ks), .int (n : Int), .int (st.ks.length : Int), .str (bsay "CappedMirror" st.ks.length), .bool true])) fr1 (e_lst (a_cons (e_meth0 (e_prop (bvv (Same.refl _) rfl) bv_tab) (tv_text gk (by omega))) (a_cons (e_prop (bvv (Same.refl _) rfl) bv_ch) (a_cons (e_lenB (bvv (Same.refl _) rfl) (by omega)) (a_cons (e_reprB (bvv (Same.refl _) rfl)) (a_cons (e_isiK (K := K) (n := "tuple") (fun _ => kTup (.tuple [])) (e_var rfl r2)) a_nil)))))) fun v3 H2 s2 fr2 r3 => ?_
  refine go_setS (S := S) (P := fun H v => Rp H v (.list [.str (txr st.ks), .int (n : Int), .int (st.ks.length : Int), .str (bsay "CappedMirror" st.ks.length), .bool true, .list [], .tuple []])) fr2 (e_cat (e_var rfl r3) (e_lst (ds := [.list [], .tuple []]) (a_cons (e_lcT (K := K) (enc := id) (as := []) (b := fun _ => true) (ev := id) (e_var rfl (r2.mono (offS_mono (S := S) s2))) (Nat.zero_le _) fun d hd => by cases hd) (a_cons (EvP.weak (P := fun H v => Rp H v (.tuple (st.qs.map fun q => .int (cnt q st.ks)))) (e_prop (bvv (offS_mono s2) rfl) (bv_cnt (cnt := cnt))) fun F v r => by
    have e := nil_qs st.qs
    rw [e] at r
    exact r) a_nil))) (by simp)) fun v4 H3 s3 fr3 r4 => ?_
  refine go_ret (P := fun H v => Rp H v (.list (seenD 3 st.ks (n : Int) cap))) fr3 (e_ifP (b := decide ((2 : Int) ≤ ((3 : Nat) : Int))) (b_test (e_cmp (g := fun i j => decide (j ≤ i)) (e_var rfl (.int _)) tI)) (fun z => ?_) fun z => ?_) fun v H4 s4 r => q v H4 (s1.trans (s2.trans (s3.trans s4))) r
  · exact eqD (e_cat (e_var rfl r4) (e_lst (ds := [.int cap]) (a_cons (e_prop (bvv (Same.trans (offS_mono s2) (offS_mono s3)) rfl) bv_most) a_nil)) (by simp)) rfl
  · cases z
end
end Q

set_option maxHeartbeats 0
namespace Q
open PySem PySem.Spec PyProof.Rows L2 Ca
theorem facts {P : Program} {w : World} {K : PySem.W.Frag} {h : Heap} {mg : PySem.Str → Option Value} {f : Addr} (X : K.In h) (G : h.Ns mainGlobals mg) (hfa : mg ("law" : PySem.Str) = some (.ref f)) (c : SaysX fs fn K) (rc_lnw : isRefC K (df_lnw.at_ K) = true) (rc_lrr : isRefC K (df_lrr.at_ K) = true) (cs : SaysS fileN snS K) (pf : SuX.PFile P fileN) :
    ∀ base : Heap, K.In base → base.Ns mainGlobals mg → (∀ p ∈ ([ctD K df_lnw, ctD K df_lrr] : List (Addr × Addr)), LamX.TabB base mg p.1 p.2) → FnG P w K mg base CX0 17 f (spLawT K (TbL K)) := by
  intro base _ _ hT
  obtain ⟨fd_num, F_num⟩ := c.def_ 0 (d := df_num) rfl
  obtain ⟨fd_tri, F_tri⟩ := c.def_ 1 (d := df_tri) rfl
  obtain ⟨fd_key, F_key⟩ := c.def_ 2 (d := df_key) rfl
  obtain ⟨fd_row, F_row⟩ := c.def_ 3 (d := df_row) rfl
  obtain ⟨fd_arr, F_arr⟩ := c.def_ 4 (d := df_arr) rfl
  obtain ⟨fd_txr, F_txr⟩ := c.def_ 5 (d := df_txr) rfl
  obtain ⟨fd_now, F_now⟩ := c.def_ 6 (d := df_now) rfl
  obtain ⟨fd_rol, F_rol⟩ := c.def_ 7 (d := df_rol) rfl
  obtain ⟨fd_twl, F_twl⟩ := c.def_ 8 (d := df_twl) rfl
  obtain ⟨fd_tinit, F_tinit⟩ := c.def_ 9 (d := df_tinit) rfl
  obtain ⟨fd_tread, F_tread⟩ := c.def_ 10 (d := df_tread) rfl
  obtain ⟨fd_trows, F_trows⟩ := c.def_ 11 (d := df_trows) rfl
  obtain ⟨fd_ttext, F_ttext⟩ := c.def_ 12 (d := df_ttext) rfl
  obtain ⟨fd_tlen, F_tlen⟩ := c.def_ 13 (d := df_tlen) rfl
  obtain ⟨fd_ck, F_ck⟩ := c.def_ 14 (d := df_ck) rfl
  obtain ⟨fd_ckp, F_ckp⟩ := c.def_ 15 (d := df_ckp) rfl
  obtain ⟨fd_tw, F_tw⟩ := c.def_ 16 (d := df_tw) rfl
  obtain ⟨fd_tget, F_tget⟩ := c.def_ 17 (d := df_tget) rfl
  obtain ⟨fd_cin, F_cin⟩ := c.def_ 18 (d := df_cin) rfl
  obtain ⟨fd_mostC, F_mostC⟩ := c.def_ 19 (d := df_mostC) rfl
  obtain ⟨fd_mostX, F_mostX⟩ := c.def_ 20 (d := df_mostX) rfl
  obtain ⟨fd_tabB, F_tabB⟩ := c.def_ 21 (d := df_tabB) rfl
  obtain ⟨fd_qsB, F_qsB⟩ := c.def_ 22 (d := df_qsB) rfl
  obtain ⟨fd_chB, F_chB⟩ := c.def_ 23 (d := df_chB) rfl
  obtain ⟨fd_cntB, F_cntB⟩ := c.def_ 24 (d := df_cntB) rfl
  obtain ⟨fd_lenB, F_lenB⟩ := c.def_ 25 (d := df_lenB) rfl
  obtain ⟨fd_repB, F_repB⟩ := c.def_ 26 (d := df_repB) rfl
  obtain ⟨fd_tabM, F_tabM⟩ := c.def_ 27 (d := df_tabM) rfl
  obtain ⟨fd_qsM, F_qsM⟩ := c.def_ 28 (d := df_qsM) rfl
  obtain ⟨fd_chM, F_chM⟩ := c.def_ 29 (d := df_chM) rfl
  obtain ⟨fd_cntM, F_cntM⟩ := c.def_ 30 (d := df_cntM) rfl
  obtain ⟨fd_lenM, F_lenM⟩ := c.def_ 31 (d := df_lenM) rfl
  obtain ⟨fd_repM, F_repM⟩ := c.def_ 32 (d := df_repM) rfl
  obtain ⟨fd_tabC, F_tabC⟩ := c.def_ 33 (d := df_tabC) rfl
  obtain ⟨fd_qsC, F_qsC⟩ := c.def_ 34 (d := df_qsC) rfl
  obtain ⟨fd_chC, F_chC⟩ := c.def_ 35 (d := df_chC) rfl
  obtain ⟨fd_cntC, F_cntC⟩ := c.def_ 36 (d := df_cntC) rfl
  obtain ⟨fd_lenC, F_lenC⟩ := c.def_ 37 (d := df_lenC) rfl
  obtain ⟨fd_repC, F_repC⟩ := c.def_ 38 (d := df_repC) rfl
  obtain ⟨fd_tabX, F_tabX⟩ := c.def_ 39 (d := df_tabX) rfl
  obtain ⟨fd_qsX, F_qsX⟩ := c.def_ 40 (d := df_qsX) rfl
  obtain ⟨fd_chX, F_chX⟩ := c.def_ 41 (d := df_chX) rfl
  obtain ⟨fd_cntX, F_cntX⟩ := c.def_ 42 (d := df_cntX) rfl
  obtain ⟨fd_lenX, F_lenX⟩ := c.def_ 43 (d := df_lenX) rfl
  obtain ⟨fd_repX, F_repX⟩ := c.def_ 44 (d := df_repX) rfl
  obtain ⟨fd_binit, F_binit⟩ := c.def_ 45 (d := df_binit) rfl
  obtain ⟨fd_ckm, F_ckm⟩ := c.def_ 46 (d := df_ckm) rfl
  obtain ⟨fd_cko, F_cko⟩ := c.def_ 47 (d := df_cko) rfl
  obtain ⟨fd_ckr, F_ckr⟩ := c.def_ 48 (d := df_ckr) rfl
  obtain ⟨fd_cmi, F_cmi⟩ := c.def_ 49 (d := df_cmi) rfl
  obtain ⟨fd_tyi, F_tyi⟩ := c.def_ 50 (d := df_tyi) rfl
  obtain ⟨fd_btry, F_btry⟩ := c.def_ 51 (d := df_btry) rfl
  obtain ⟨fd_bund, F_bund⟩ := c.def_ 52 (d := df_bund) rfl
  obtain ⟨fd_cell, F_cell⟩ := c.def_ 53 (d := df_cell) rfl
  obtain ⟨fd_source, F_source⟩ := c.def_ 54 (d := df_source) rfl
  obtain ⟨fd_draw, F_draw⟩ := c.def_ 55 (d := df_draw) rfl
  obtain ⟨fd_choose, F_choose⟩ := c.def_ 56 (d := df_choose) rfl
  obtain ⟨fd_eq, F_eq⟩ := c.def_ 57 (d := df_eq) rfl
  obtain ⟨fd_ltx, F_ltx⟩ := c.def_ 58 (d := df_ltx) rfl
  obtain ⟨fd_ltb, F_ltb⟩ := c.def_ 59 (d := df_ltb) rfl
  obtain ⟨fd_lky, F_lky⟩ := c.def_ 60 (d := df_lky) rfl
  obtain ⟨fd_lpu, F_lpu⟩ := c.def_ 61 (d := df_lpu) rfl
  obtain ⟨fd_lpb, F_lpb⟩ := c.def_ 62 (d := df_lpb) rfl
  obtain ⟨fd_lls, F_lls⟩ := c.def_ 63 (d := df_lls) rfl
  obtain ⟨fd_law, F_law⟩ := c.def_ 64 (d := df_law) rfl
  obtain ⟨fd_ldu, F_ldu⟩ := c.def_ 65 (d := df_ldu) rfl
  obtain ⟨fd_said, F_said⟩ := c.def_ 66 (d := df_said) rfl
  obtain ⟨fd_lsn, F_lsn⟩ := c.def_ 67 (d := df_lsn) rfl
  obtain ⟨fd_lmd, F_lmd⟩ := c.def_ 68 (d := df_lmd) rfl
  obtain ⟨fd_lkd, F_lkd⟩ := c.def_ 69 (d := df_lkd) rfl
  obtain ⟨fd_lnw, F_lnw⟩ := c.def_ 70 (d := df_lnw) rfl
  obtain ⟨fd_lrr, F_lrr⟩ := c.def_ 71 (d := df_lrr) rfl
  obtain ⟨fd_minit, F_minit⟩ := cs.def_ 0 (d := sf_minit) rfl
  have b_minit : Binds K fd_minit ["self", "table"] [] := F_minit.bindsN fun _ _ _ _ _ _ _ us hl => match us, hl with | [_, _], _ => rfl
  obtain ⟨fd_cinit, F_cinit⟩ := cs.def_ 1 (d := sf_cinit) rfl
  obtain ⟨fd_xinit, F_xinit⟩ := cs.def_ 2 (d := sf_xinit) rfl
  obtain ⟨fd_mtry, F_mtry⟩ := cs.def_ 3 (d := sf_mtry) rfl
  have b_mtry : Binds K fd_mtry ["self"] [] := F_mtry.bindsN fun _ _ _ _ _ _ _ us hl => match us, hl with | [_], _ => rfl
  obtain ⟨fd_mund, F_mund⟩ := cs.def_ 4 (d := sf_mund) rfl
  have b_mund : Binds K fd_mund ["self"] [] := F_mund.bindsN fun _ _ _ _ _ _ _ us hl => match us, hl with | [_], _ => rfl
  obtain ⟨fd_ctry, F_ctry⟩ := cs.def_ 5 (d := sf_ctry) rfl
  have b_ctry : Binds K fd_ctry ["self"] [] := F_ctry.bindsN fun _ _ _ _ _ _ _ us hl => match us, hl with | [_], _ => rfl
  obtain ⟨fd_cund, F_cund⟩ := cs.def_ 6 (d := sf_cund) rfl
  have b_cund : Binds K fd_cund ["self"] [] := F_cund.bindsN fun _ _ _ _ _ _ _ us hl => match us, hl with | [_], _ => rfl
  obtain ⟨fd_xtry, F_xtry⟩ := cs.def_ 7 (d := sf_xtry) rfl
  have b_xtry : Binds K fd_xtry ["self"] [] := F_xtry.bindsN fun _ _ _ _ _ _ _ us hl => match us, hl with | [_], _ => rfl
  obtain ⟨fd_xund, F_xund⟩ := cs.def_ 8 (d := sf_xund) rfl
  have b_xund : Binds K fd_xund ["self"] [] := F_xund.bindsN fun _ _ _ _ _ _ _ us hl => match us, hl with | [_], _ => rfl
  have e := hfa.symm.trans (He.glo_ok X G (c.fact 155 rfl))
  cases e
  have b_num : Binds K fd_num ["thing", "least", "most"] [] := F_num.bindsN fun _ _ _ _ _ _ us hl => match us, hl with | [_, _, _], _ => rfl
  have b_tri : Binds K fd_tri ["thing", "most"] [] := F_tri.bindsN fun _ _ _ _ _ _ us hl => match us, hl with | [_, _], _ => rfl
  have b_key : Binds K fd_key ["thing"] [] := F_key.bindsN fun _ _ _ _ _ _ us hl => match us, hl with | [_], _ => rfl
  have b_row : Binds K fd_row ["thing"] [] := F_row.bindsN fun _ _ _ _ _ _ us hl => match us, hl with | [_], _ => rfl
  have b_arr : Binds K fd_arr ["things"] [] := F_arr.bindsN fun _ _ _ _ _ _ us hl => match us, hl with | [_], _ => rfl
  have b_txr : Binds K fd_txr ["rows"] [] := F_txr.bindsN fun _ _ _ _ _ _ us hl => match us, hl with | [_], _ => rfl
  have b_now : Binds K fd_now ["word"] [] := F_now.bindsN fun _ _ _ _ _ _ us hl => match us, hl with | [_], _ => rfl
  have b_rol : Binds K fd_rol ["line"] [] := F_rol.bindsN fun _ _ _ _ _ _ us hl => match us, hl with | [_], _ => rfl
  have b_twl : Binds K fd_twl ["rows"] [] := F_twl.bindsN fun _ _ _ _ _ _ us hl => match us, hl with | [_], _ => rfl
  have b_tread : Binds K fd_tread ["cls", "text"] [] := F_tread.bindsN fun _ _ _ _ _ _ us hl => match us, hl with | [_, _], _ => rfl
  have b_trows : Binds K fd_trows ["self"] [] := F_trows.bindsN fun _ _ _ _ _ _ us hl => match us, hl with | [_], _ => rfl
  have b_ttext : Binds K fd_ttext ["self"] [] := F_ttext.bindsN fun _ _ _ _ _ _ us hl => match us, hl with | [_], _ => rfl
  have b_tlen : Binds K fd_tlen ["self"] [] := F_tlen.bindsN fun _ _ _ _ _ _ us hl => match us, hl with | [_], _ => rfl
  have b_ck : Binds K fd_ck ["thing"] [] := F_ck.bindsN fun _ _ _ _ _ _ us hl => match us, hl with | [_], _ => rfl
  have b_ckp : Binds K fd_ckp ["kind", "left", "right", "often"] [] := F_ckp.bindsN fun _ _ _ _ _ _ us hl => match us, hl with | [_, _, _, _], _ => rfl
  have b_tw : Binds K fd_tw ["table", "keys", "often"] [] := F_tw.bindsN fun _ _ _ _ _ _ us hl => match us, hl with | [_, _, _], _ => rfl
  have b_tget : Binds K fd_tget ["self", "at"] [] := F_tget.bindsN fun _ _ _ _ _ _ us hl => match us, hl with | [_, _], _ => rfl
  have b_cin : Binds K fd_cin ["table", "questions"] [] := F_cin.bindsN fun _ _ _ _ _ _ us hl => match us, hl with | [_, _], _ => rfl
  have b_mostC : Binds K fd_mostC ["self"] [] := F_mostC.bindsN fun _ _ _ _ _ _ us hl => match us, hl with | [_], _ => rfl
  have b_mostX : Binds K fd_mostX ["self"] [] := F_mostX.bindsN fun _ _ _ _ _ _ us hl => match us, hl with | [_], _ => rfl
  have b_tabB : Binds K fd_tabB ["self"] [] := F_tabB.bindsN fun _ _ _ _ _ _ us hl => match us, hl with | [_], _ => rfl
  have b_qsB : Binds K fd_qsB ["self"] [] := F_qsB.bindsN fun _ _ _ _ _ _ us hl => match us, hl with | [_], _ => rfl
  have b_chB : Binds K fd_chB ["self"] [] := F_chB.bindsN fun _ _ _ _ _ _ us hl => match us, hl with | [_], _ => rfl
  have b_cntB : Binds K fd_cntB ["self"] [] := F_cntB.bindsN fun _ _ _ _ _ _ us hl => match us, hl with | [_], _ => rfl
  have b_lenB : Binds K fd_lenB ["self"] [] := F_lenB.bindsN fun _ _ _ _ _ _ us hl => match us, hl with | [_], _ => rfl
  have b_repB : Binds K fd_repB ["self"] [] := F_repB.bindsN fun _ _ _ _ _ _ us hl => match us, hl with | [_], _ => rfl
  have b_tabM : Binds K fd_tabM ["self"] [] := F_tabM.bindsN fun _ _ _ _ _ _ us hl => match us, hl with | [_], _ => rfl
  have b_qsM : Binds K fd_qsM ["self"] [] := F_qsM.bindsN fun _ _ _ _ _ _ us hl => match us, hl with | [_], _ => rfl
  have b_chM : Binds K fd_chM ["self"] [] := F_chM.bindsN fun _ _ _ _ _ _ us hl => match us, hl with | [_], _ => rfl
  have b_cntM : Binds K fd_cntM ["self"] [] := F_cntM.bindsN fun _ _ _ _ _ _ us hl => match us, hl with | [_], _ => rfl
  have b_lenM : Binds K fd_lenM ["self"] [] := F_lenM.bindsN fun _ _ _ _ _ _ us hl => match us, hl with | [_], _ => rfl
  have b_repM : Binds K fd_repM ["self"] [] := F_repM.bindsN fun _ _ _ _ _ _ us hl => match us, hl with | [_], _ => rfl
  have b_tabC : Binds K fd_tabC ["self"] [] := F_tabC.bindsN fun _ _ _ _ _ _ us hl => match us, hl with | [_], _ => rfl
  have b_qsC : Binds K fd_qsC ["self"] [] := F_qsC.bindsN fun _ _ _ _ _ _ us hl => match us, hl with | [_], _ => rfl
  have b_chC : Binds K fd_chC ["self"] [] := F_chC.bindsN fun _ _ _ _ _ _ us hl => match us, hl with | [_], _ => rfl
  have b_cntC : Binds K fd_cntC ["self"] [] := F_cntC.bindsN fun _ _ _ _ _ _ us hl => match us, hl with | [_], _ => rfl
  have b_lenC : Binds K fd_lenC ["self"] [] := F_lenC.bindsN fun _ _ _ _ _ _ us hl => match us, hl with | [_], _ => rfl
  have b_repC : Binds K fd_repC ["self"] [] := F_repC.bindsN fun _ _ _ _ _ _ us hl => match us, hl with | [_], _ => rfl
  have b_tabX : Binds K fd_tabX ["self"] [] := F_tabX.bindsN fun _ _ _ _ _ _ us hl => match us, hl with | [_], _ => rfl
  have b_qsX : Binds K fd_qsX ["self"] [] := F_qsX.bindsN fun _ _ _ _ _ _ us hl => match us, hl with | [_], _ => rfl
  have b_chX : Binds K fd_chX ["self"] [] := F_chX.bindsN fun _ _ _ _ _ _ us hl => match us, hl with | [_], _ => rfl
  have b_cntX : Binds K fd_cntX ["self"] [] := F_cntX.bindsN fun _ _ _ _ _ _ us hl => match us, hl with | [_], _ => rfl
  have b_lenX : Binds K fd_lenX ["self"] [] := F_lenX.bindsN fun _ _ _ _ _ _ us hl => match us, hl with | [_], _ => rfl
  have b_repX : Binds K fd_repX ["self"] [] := F_repX.bindsN fun _ _ _ _ _ _ us hl => match us, hl with | [_], _ => rfl
  have b_binit : Binds K fd_binit ["self", "table"] [] := F_binit.bindsN fun _ _ _ _ _ _ us hl => match us, hl with | [_, _], _ => rfl
  have b_ckm : Binds K fd_ckm ["thing"] [] := F_ckm.bindsN fun _ _ _ _ _ _ us hl => match us, hl with | [_], _ => rfl
  have b_cko : Binds K fd_cko ["often", "most"] [] := F_cko.bindsN fun _ _ _ _ _ _ us hl => match us, hl with | [_, _], _ => rfl
  have b_ckr : Binds K fd_ckr ["table", "most"] [] := F_ckr.bindsN fun _ _ _ _ _ _ us hl => match us, hl with | [_, _], _ => rfl
  have b_cmi : Binds K fd_cmi ["table"] [] := F_cmi.bindsN fun _ _ _ _ _ _ us hl => match us, hl with | [_], _ => rfl
  have b_tyi : Binds K fd_tyi ["self", "book"] [] := F_tyi.bindsN fun _ _ _ _ _ _ us hl => match us, hl with | [_, _], _ => rfl
  have b_btry : Binds K fd_btry ["self"] [] := F_btry.bindsN fun _ _ _ _ _ _ us hl => match us, hl with | [_], _ => rfl
  have b_bund : Binds K fd_bund ["self"] [] := F_bund.bindsN fun _ _ _ _ _ _ us hl => match us, hl with | [_], _ => rfl
  have b_cell : Binds K fd_cell ["_law_script", "_law_index"] [] := F_cell.bindsN fun _ _ _ _ _ _ us hl => match us, hl with | [_, _], _ => rfl
  have b_source : Binds K fd_source ["_law_cell_here"] [] := F_source.bindsN fun _ _ _ _ _ _ us hl => match us, hl with | [_], _ => rfl
  have b_draw : Binds K fd_draw ["_law_source_here", "_law_many"] [] := F_draw.bindsN fun _ _ _ _ _ _ us hl => match us, hl with | [_, _], _ => rfl
  have b_choose : Binds K fd_choose ["_law_source_here", "_law_values"] [] := F_choose.bindsN fun _ _ _ _ _ _ us hl => match us, hl with | [_, _], _ => rfl
  have b_ltx : Binds K fd_ltx ["_law_listed_here"] [] := F_ltx.bindsN fun _ _ _ _ _ _ us hl => match us, hl with | [_], _ => rfl
  have b_ltb : Binds K fd_ltb ["_law_listed_here"] [] := F_ltb.bindsN fun _ _ _ _ _ _ us hl => match us, hl with | [_], _ => rfl
  have b_lky : Binds K fd_lky ["_law_source_here", "_law_top"] [] := F_lky.bindsN fun _ _ _ _ _ _ us hl => match us, hl with | [_, _], _ => rfl
  have b_lpu : Binds K fd_lpu ["_law_listed_here", "_law_key_here", "_law_many"] [] := F_lpu.bindsN fun _ _ _ _ _ _ us hl => match us, hl with | [_, _, _], _ => rfl
  have b_lpb : Binds K fd_lpb ["_law_kind", "_law_listed_here", "_law_key_here", "_law_many"] [] := F_lpb.bindsN fun _ _ _ _ _ _ us hl => match us, hl with | [_, _, _, _], _ => rfl
  have b_lls : Binds K fd_lls ["_law_source_here", "_law_kind", "_law_size", "_law_cap"] [] := F_lls.bindsN fun _ _ _ _ _ _ us hl => match us, hl with | [_, _, _, _], _ => rfl
  have b_law : Binds K fd_law ["_law_script"] [] := F_law.bindsN fun _ _ _ _ _ _ us hl => match us, hl with | [_], _ => rfl
  have b_ldu : Binds K fd_ldu ["_law_kind", "_law_listed_here", "_law_changes", "_law_words", "_law_cap"] [] := F_ldu.bindsN fun _ _ _ _ _ _ us hl => match us, hl with | [_, _, _, _, _], _ => rfl
  have b_said : Binds K fd_said ["_law_call"] [] := F_said.bindsN fun _ _ _ _ _ _ us hl => match us, hl with | [_], _ => rfl
  have b_lmd : Binds K fd_lmd ["_law_kind", "_law_made_here", "_law_cap"] [] := F_lmd.bindsN fun _ _ _ _ _ _ us hl => match us, hl with | [_, _, _], _ => rfl
  have b_lkd : Binds K fd_lkd ["_law_book"] [] := F_lkd.bindsN fun _ _ _ _ _ _ us hl => match us, hl with | [_], _ => rfl
  have sK : ∀ H : Hp, SqT K H (He.ga K "KINDS") [.str "A", .str "B", .str "C"] := fun H => He.tupB_ok (c.fact 27 rfl) H
  have T : Tx K mg := {
    isi := (He.free_ok X G (c.fact 0 rfl)), int := (He.free_ok X G (c.fact 1 rfl)), bool := (He.free_ok X G (c.fact 2 rfl)), str := (He.free_ok X G (c.fact 3 rfl)), tup := (He.free_ok X G (c.fact 4 rfl)), lst := (He.free_ok X G (c.fact 5 rfl)), len := (He.free_ok X G (c.fact 6 rfl)), all := (He.free_ok X G (c.fact 7 rfl)),
    sorted := (He.free_ok X G (c.fact 8 rfl)), repr := (He.free_ok X G (c.fact 9 rfl)), max := (He.free_ok X G (c.fact 10 rfl)), min := (He.free_ok X G (c.fact 11 rfl)), range := (He.free_ok X G (c.fact 12 rfl)),
    kinds := ⟨_, (He.glo_ok X G (c.fact 24 rfl)), sK⟩, sm := Option.isSome_iff_exists.mp (c.fact 28 rfl) }
  obtain ⟨yR1, yR2, yR3, yR4⟩ := He.exc_ok (c.fact 29 rfl)
  have XxR : XT K mg "NoRows" (He.ga K "NoRows") := ⟨(He.glo_ok X G (c.fact 25 rfl)), yR1, yR2, yR3, yR4⟩
  have TQ : TT K mg (He.ga K "Table") (He.ga K "NoRows") := {
    cl := He.cls_ok (c.fact 30 rfl), nK := He.noat_ok (c.fact 31 rfl), gN := XxR.gN, xN := XxR.xN, kN := XxR.kN, bN := XxR.bN, tN := XxR.tN }
  have M := He.mkr_ok (c.fact 32 rfl)
  have G_num := ok_num (P := P) (w := w) (mg := mg) (base := base) F_num T
  have G_tri := ok_tri (P := P) (w := w) (base := base) F_tri T F_num (He.glo_ok X G (c.fact 15 rfl))
  have G_key := ok_key (P := P) (w := w) (base := base) F_key (He.int_ok X G (c.fact 33 rfl)) ⟨_, _, G_tri.imp tri_imp, b_tri, F_tri.kp, (He.glo_ok X G (c.fact 16 rfl))⟩
  have G_row := ok_row (P := P) (w := w) (base := base) F_row T (He.int_ok X G (c.fact 34 rfl)) ⟨_, _, G_key, b_key, F_key.kp, (He.glo_ok X G (c.fact 17 rfl))⟩ ⟨_, _, G_num.imp num_imp, b_num, F_num.kp, (He.glo_ok X G (c.fact 15 rfl))⟩
  have G_arrT := ok_rowsT (P := P) (w := w) (base := base) F_arr T (He.int_ok X G (c.fact 35 rfl)) ⟨_, _, G_row, b_row, F_row.kp, (He.glo_ok X G (c.fact 18 rfl))⟩
  have G_arrL := ok_rowsL (P := P) (w := w) (base := base) F_arr T (He.int_ok X G (c.fact 35 rfl)) ⟨_, _, G_row, b_row, F_row.kp, (He.glo_ok X G (c.fact 18 rfl))⟩
  have G_tinit := ok_tinit (P := P) (w := w) (base := base) F_tinit T TQ ⟨_, _, G_arrT, b_arr, F_arr.kp, (He.glo_ok X G (c.fact 19 rfl))⟩
  have G_txrT := ok_txrT (P := P) (w := w) (mg := mg) (base := base) F_txr T
  have G_txrL := ok_txrL (P := P) (w := w) (mg := mg) (base := base) F_txr T
  have G_trows := ok_trows (P := P) (w := w) (base := base) F_trows TQ
  have G_ttext := ok_ttext (P := P) (w := w) (base := base) F_ttext TQ ⟨_, _, G_txrT, b_txr, F_txr.kp, (He.glo_ok X G (c.fact 20 rfl))⟩
  have G_now := ok_now (P := P) (w := w) (mg := mg) (base := base) F_now T (He.int_ok X G (c.fact 36 rfl))
  have G_rol := ok_rol (P := P) (w := w) (base := base) F_rol T ⟨_, _, G_now.imp now_imp, b_now, F_now.kp, (He.glo_ok X G (c.fact 21 rfl))⟩
  have G_tread := ok_tread (P := P) (w := w) (base := base) F_tread T M G_tinit ⟨_, _, G_rol, b_rol, F_rol.kp, (He.glo_ok X G (c.fact 22 rfl))⟩ ⟨_, _, G_arrL, b_arr, F_arr.kp, (He.glo_ok X G (c.fact 19 rfl))⟩ ⟨_, _, G_txrL, b_txr, F_txr.kp, (He.glo_ok X G (c.fact 20 rfl))⟩
  have cr := cr_ok (c.fact 37 rfl)
  have cm := cm_ok (c.fact 38 rfl)
  have GR : FnR P w K mg base CX0 8 _ (spQ (ITRead (He.ga K "Table"))) := (G_tread.raw b_tread .nil).imp fun vs H Q E h => by rw [List.append_nil]; exact h
  have hR := prop_ok (c.fact 39 rfl)
  have mX := He.meth_ok (c.fact 40 rfl)
  obtain ⟨yT1, yT2, yT3, yT4⟩ := He.exc_ok (c.fact 41 rfl)
  have XxT : XT K mg "TooMuch" (He.ga K "TooMuch") := ⟨(He.glo_ok X G (c.fact 42 rfl)), yT1, yT2, yT3, yT4⟩
  have G_twl := ok_twlX (P := P) (w := w) (base := base) F_twl M G_tinit (He.glo_ok X G (c.fact 26 rfl)) XxT ⟨_, _, G_arrL, b_arr, F_arr.kp, (He.glo_ok X G (c.fact 19 rfl))⟩
  have G_tlen := ok_tlen (P := P) (w := w) (base := base) F_tlen T TQ
  obtain ⟨hsLT, hfLT⟩ := slot_ok (c.fact 43 rfl)
  have ic := isT_ok (c.fact 44 rfl)
  obtain ⟨yNT1, yNT2, yNT3, yNT4⟩ := He.exc_ok (c.fact 45 rfl)
  have XxNT : XT K mg "NoTable" (He.ga K "NoTable") := ⟨(He.glo_ok X G (c.fact 46 rfl)), yNT1, yNT2, yNT3, yNT4⟩
  obtain ⟨yNK1, yNK2, yNK3, yNK4⟩ := He.exc_ok (c.fact 47 rfl)
  have XxNK : XT K mg "NoKey" (He.ga K "NoKey") := ⟨(He.glo_ok X G (c.fact 48 rfl)), yNK1, yNK2, yNK3, yNK4⟩
  obtain ⟨yNN1, yNN2, yNN3, yNN4⟩ := He.exc_ok (c.fact 49 rfl)
  have XxNN : XT K mg "NoNumber" (He.ga K "NoNumber") := ⟨(He.glo_ok X G (c.fact 50 rfl)), yNN1, yNN2, yNN3, yNN4⟩
  have G_ck := ok_ck (P := P) (w := w) (base := base) F_ck T TQ ic (He.glo_ok X G (c.fact 26 rfl)) XxNT
  have G_ckp := ok_ckp (P := P) (w := w) (base := base) F_ckp XxNK XxNN (He.int_ok X G (c.fact 34 rfl)) ⟨_, _, G_key, b_key, F_key.kp, (He.glo_ok X G (c.fact 17 rfl))⟩ ⟨_, _, G_num.imp num_imp, b_num, F_num.kp, (He.glo_ok X G (c.fact 15 rfl))⟩
  have G_tw := ok_tw (P := P) (w := w) (base := base) F_tw T TQ G_trows b_trows hR G_twl b_twl F_twl.kp (He.glo_ok X G (c.fact 23 rfl))
  have G_tget := ok_tget (P := P) (w := w) (mg := mg) (base := base) (C := He.ga K "Table") (N := He.ga K "NoRows") F_tget T (He.free_ok X G (c.fact 14 rfl)) TQ ⟨_, _, G_key, b_key, F_key.kp, (He.glo_ok X G (c.fact 17 rfl))⟩
  have ixT := ix_ok (c.fact 54 rfl)
  have G_cin := ok_cinE (P := P) (w := w) (mg := mg) (base := base) (CT := He.ga K "Table") (cnt := fun q _ => nomatch q) F_cin T
  have cB : BCl K (He.ga K "Book") := ⟨He.cls_ok (c.fact 56 rfl), He.noat_ok (c.fact 57 rfl), He.noat_ok (c.fact 58 rfl), He.noat_ok (c.fact 59 rfl), He.noat_ok (c.fact 60 rfl)⟩
  have h_tabB := prop_ok (c.fact 62 rfl)
  have G_tabB := ok_tabB (P := P) (w := w) (mg := mg) (base := base) (CT := He.ga K "Table") F_tabB cB mon_qe
  have h_qsB := prop_ok (c.fact 63 rfl)
  have G_qsB := ok_qsB (P := P) (w := w) (mg := mg) (base := base) (CT := He.ga K "Table") F_qsB cB mon_qe
  have h_chB := prop_ok (c.fact 64 rfl)
  have G_chB := ok_chB (P := P) (w := w) (mg := mg) (base := base) (CT := He.ga K "Table") F_chB T cB mon_qe
  have h_cntB := prop_ok (c.fact 65 rfl)
  have G_cntB := ok_cntB (P := P) (w := w) (mg := mg) (base := base) (CT := He.ga K "Table") F_cntB cB mon_qe ⟨_, _, G_cin, b_cin, F_cin.kp, (He.glo_ok X G (c.fact 55 rfl))⟩
  obtain ⟨s_lenB1, s_lenB2⟩ := slot_ok (c.fact 66 rfl)
  obtain ⟨s_repB1, s_repB2⟩ := slot_ok (c.fact 67 rfl)
  have G_lenB := ok_lenB (P := P) (w := w) (mg := mg) (base := base) (CT := He.ga K "Table") (N := He.ga K "NoRows") F_lenB T cB mon_qe hsLT hfLT G_tlen b_tlen
  have G_repB := ok_repB (P := P) (w := w) (mg := mg) (base := base) (CT := He.ga K "Table") (N := He.ga K "NoRows") F_repB T cB mon_qe hsLT hfLT G_tlen b_tlen
  have cM : BCl K (He.ga K "Mirrored") := ⟨He.cls_ok (c.fact 68 rfl), He.noat_ok (c.fact 69 rfl), He.noat_ok (c.fact 70 rfl), He.noat_ok (c.fact 71 rfl), He.noat_ok (c.fact 72 rfl)⟩
  have h_tabM := prop_ok (c.fact 74 rfl)
  have G_tabM := ok_tabM (P := P) (w := w) (mg := mg) (base := base) (CT := He.ga K "Table") F_tabM cM mon_qe
  have h_qsM := prop_ok (c.fact 75 rfl)
  have G_qsM := ok_qsM (P := P) (w := w) (mg := mg) (base := base) (CT := He.ga K "Table") F_qsM cM mon_qe
  have h_chM := prop_ok (c.fact 76 rfl)
  have G_chM := ok_chM (P := P) (w := w) (mg := mg) (base := base) (CT := He.ga K "Table") F_chM T cM mon_qe
  have h_cntM := prop_ok (c.fact 77 rfl)
  have G_cntM := ok_cntM (P := P) (w := w) (mg := mg) (base := base) (CT := He.ga K "Table") F_cntM cM mon_qe ⟨_, _, G_cin, b_cin, F_cin.kp, (He.glo_ok X G (c.fact 55 rfl))⟩
  obtain ⟨s_lenM1, s_lenM2⟩ := slot_ok (c.fact 78 rfl)
  obtain ⟨s_repM1, s_repM2⟩ := slot_ok (c.fact 79 rfl)
  have G_lenM := ok_lenM (P := P) (w := w) (mg := mg) (base := base) (CT := He.ga K "Table") (N := He.ga K "NoRows") F_lenM T cM mon_qe hsLT hfLT G_tlen b_tlen
  have G_repM := ok_repM (P := P) (w := w) (mg := mg) (base := base) (CT := He.ga K "Table") (N := He.ga K "NoRows") F_repM T cM mon_qe hsLT hfLT G_tlen b_tlen
  have cC : BCl K (He.ga K "Capped") := ⟨He.cls_ok (c.fact 80 rfl), He.noat_ok (c.fact 81 rfl), He.noat_ok (c.fact 82 rfl), He.noat_ok (c.fact 83 rfl), He.noat_ok (c.fact 84 rfl)⟩
  have h_tabC := prop_ok (c.fact 86 rfl)
  have G_tabC := ok_tabC (P := P) (w := w) (mg := mg) (base := base) (CT := He.ga K "Table") F_tabC cC mon_qe
  have h_qsC := prop_ok (c.fact 87 rfl)
  have G_qsC := ok_qsC (P := P) (w := w) (mg := mg) (base := base) (CT := He.ga K "Table") F_qsC cC mon_qe
  have h_chC := prop_ok (c.fact 88 rfl)
  have G_chC := ok_chC (P := P) (w := w) (mg := mg) (base := base) (CT := He.ga K "Table") F_chC T cC mon_qe
  have h_cntC := prop_ok (c.fact 89 rfl)
  have G_cntC := ok_cntC (P := P) (w := w) (mg := mg) (base := base) (CT := He.ga K "Table") F_cntC cC mon_qe ⟨_, _, G_cin, b_cin, F_cin.kp, (He.glo_ok X G (c.fact 55 rfl))⟩
  obtain ⟨s_lenC1, s_lenC2⟩ := slot_ok (c.fact 90 rfl)
  obtain ⟨s_repC1, s_repC2⟩ := slot_ok (c.fact 91 rfl)
  have G_lenC := ok_lenC (P := P) (w := w) (mg := mg) (base := base) (CT := He.ga K "Table") (N := He.ga K "NoRows") F_lenC T cC mon_qe hsLT hfLT G_tlen b_tlen
  have G_repC := ok_repC (P := P) (w := w) (mg := mg) (base := base) (CT := He.ga K "Table") (N := He.ga K "NoRows") F_repC T cC mon_qe hsLT hfLT G_tlen b_tlen
  have cX : BCl K (He.ga K "CappedMirror") := ⟨He.cls_ok (c.fact 92 rfl), He.noat_ok (c.fact 93 rfl), He.noat_ok (c.fact 94 rfl), He.noat_ok (c.fact 95 rfl), He.noat_ok (c.fact 96 rfl)⟩
  have h_tabX := prop_ok (c.fact 98 rfl)
  have G_tabX := ok_tabX (P := P) (w := w) (mg := mg) (base := base) (CT := He.ga K "Table") F_tabX cX mon_qe
  have h_qsX := prop_ok (c.fact 99 rfl)
  have G_qsX := ok_qsX (P := P) (w := w) (mg := mg) (base := base) (CT := He.ga K "Table") F_qsX cX mon_qe
  have h_chX := prop_ok (c.fact 100 rfl)
  have G_chX := ok_chX (P := P) (w := w) (mg := mg) (base := base) (CT := He.ga K "Table") F_chX T cX mon_qe
  have h_cntX := prop_ok (c.fact 101 rfl)
  have G_cntX := ok_cntX (P := P) (w := w) (mg := mg) (base := base) (CT := He.ga K "Table") F_cntX cX mon_qe ⟨_, _, G_cin, b_cin, F_cin.kp, (He.glo_ok X G (c.fact 55 rfl))⟩
  obtain ⟨s_lenX1, s_lenX2⟩ := slot_ok (c.fact 102 rfl)
  obtain ⟨s_repX1, s_repX2⟩ := slot_ok (c.fact 103 rfl)
  have G_lenX := ok_lenX (P := P) (w := w) (mg := mg) (base := base) (CT := He.ga K "Table") (N := He.ga K "NoRows") F_lenX T cX mon_qe hsLT hfLT G_tlen b_tlen
  have G_repX := ok_repX (P := P) (w := w) (mg := mg) (base := base) (CT := He.ga K "Table") (N := He.ga K "NoRows") F_repX T cX mon_qe hsLT hfLT G_tlen b_tlen
  have h_mostC := prop_ok (c.fact 104 rfl)
  have G_mostC := ok_mostC (P := P) (w := w) (mg := mg) (base := base) (CT := He.ga K "Table") F_mostC cC mon_qe
  have h_mostX := prop_ok (c.fact 105 rfl)
  have G_mostX := ok_mostX (P := P) (w := w) (mg := mg) (base := base) (CT := He.ga K "Table") F_mostX cX mon_qe
  have G_binitB := (ok_binit (P := P) (w := w) (base := base) F_binit cB mon_qe G_ck b_ck F_ck.kp (He.glo_ok X G (c.fact 51 rfl))).imp binit_imp
  have G_binitM := (ok_binit (P := P) (w := w) (base := base) F_binit cM mon_qe G_ck b_ck F_ck.kp (He.glo_ok X G (c.fact 51 rfl))).imp binit_imp
  have G_binitC := (ok_binit (P := P) (w := w) (base := base) F_binit cC mon_qe G_ck b_ck F_ck.kp (He.glo_ok X G (c.fact 51 rfl))).imp binit_imp
  have G_binitX := (ok_binit (P := P) (w := w) (base := base) F_binit cX mon_qe G_ck b_ck F_ck.kp (He.glo_ok X G (c.fact 51 rfl))).imp binit_imp
  obtain ⟨yNO1, yNO2, yNO3, yNO4⟩ := He.exc_ok (c.fact 106 rfl)
  have XxNO : XT K mg "TooOften" (He.ga K "TooOften") := ⟨(He.glo_ok X G (c.fact 107 rfl)), yNO1, yNO2, yNO3, yNO4⟩
  have G_ckm := ok_ckm (P := P) (w := w) (base := base) F_ckm XxNN (He.int_ok X G (c.fact 34 rfl)) ⟨_, _, G_num.imp num_imp, b_num, F_num.kp, (He.glo_ok X G (c.fact 15 rfl))⟩
  have G_cko := ok_cko (P := P) (w := w) (base := base) F_cko XxNO
  have G_ckr := ok_ckr (P := P) (w := w) (base := base) F_ckr TQ G_trows b_trows hR G_cko b_cko F_cko.kp (He.glo_ok X G (c.fact 109 rfl))
  obtain ⟨yNM1, yNM2, yNM3, yNM4⟩ := He.exc_ok (c.fact 111 rfl)
  have XxNM : XT K mg "NotMirrored" (He.ga K "NotMirrored") := ⟨(He.glo_ok X G (c.fact 112 rfl)), yNM1, yNM2, yNM3, yNM4⟩
  obtain ⟨yND1, yND2, yND3, yND4⟩ := He.exc_ok (c.fact 113 rfl)
  have XxND : XT K mg "NothingDone" (He.ga K "NothingDone") := ⟨(He.glo_ok X G (c.fact 114 rfl)), yND1, yND2, yND3, yND4⟩
  have G_cmi := ok_cmi (P := P) (w := w) (base := base) F_cmi T XxNM TQ ixT G_tget b_tget G_trows b_trows hR
  have skMM := (supK_ok (He.free_ok X G (c.fact 13 rfl)) (c.fact 116 rfl))
  have skCC := (supK_ok (He.free_ok X G (c.fact 13 rfl)) (c.fact 117 rfl))
  have skXX := (supK_ok (He.free_ok X G (c.fact 13 rfl)) (c.fact 118 rfl))
  have skXC := (supK_ok (He.free_ok X G (c.fact 13 rfl)) (c.fact 119 rfl))
  have skXM := (supK_ok (He.free_ok X G (c.fact 13 rfl)) (c.fact 120 rfl))
  obtain ⟨ds_cinit, vd_cinit, b1_cinit⟩ := F_cinit.binds1 (ps := ["self", "table", "most"]) 2 0 (by simp [sf_cinit]) rfl fun T kV doc pm an cda ct cc us its h1 h2 => match us, h1, its, h2 with | [_, _], _, [_], _ => ⟨_, rfl, rfl⟩
  obtain ⟨dz_cinit, vz_cinit, b_cinit⟩ := F_cinit.binds1 (ps := ["self", "table", "most"]) 3 1 (by simp [sf_cinit]) rfl fun T kV doc pm an cda ct cc us its h1 h2 => match us, h1, its, h2 with | [_, _, _], _, [_], _ => ⟨_, rfl, rfl⟩
  cases vz_cinit
  have bk_cinit := F_cinit.kwAll (ps := ["self", "table", "most"]) 2 ["most"] (by simp [sf_cinit]) fun T kV doc pm an cda ct cc us its ws h1 h2 h3 => match us, h1, its, h2, ws, h3 with | [_, _], _, [_], _, [_], _ => ⟨_, rfl, rfl⟩
  obtain ⟨ds_xinit, vd_xinit, b1_xinit⟩ := F_xinit.binds1 (ps := ["self", "table", "most"]) 2 0 (by simp [sf_xinit]) rfl fun T kV doc pm an cda ct cc us its h1 h2 => match us, h1, its, h2 with | [_, _], _, [_], _ => ⟨_, rfl, rfl⟩
  obtain ⟨dz_xinit, vz_xinit, b_xinit⟩ := F_xinit.binds1 (ps := ["self", "table", "most"]) 3 1 (by simp [sf_xinit]) rfl fun T kV doc pm an cda ct cc us its h1 h2 => match us, h1, its, h2 with | [_, _, _], _, [_], _ => ⟨_, rfl, rfl⟩
  cases vz_xinit
  have bk_xinit := F_xinit.kwAll (ps := ["self", "table", "most"]) 2 ["most"] (by simp [sf_xinit]) fun T kV doc pm an cda ct cc us its ws h1 h2 h3 => match us, h1, its, h2, ws, h3 with | [_, _], _, [_], _, [_], _ => ⟨_, rfl, rfl⟩
  have G_minitM := ok_minit (P := P) (w := w) (base := base) F_minit pf skMM (supM_ok (c.fact 121 rfl)) G_ck b_ck F_ck.kp (He.glo_ok X G (c.fact 51 rfl)) G_cmi b_cmi F_cmi.kp (He.glo_ok X G (c.fact 115 rfl)) (k := 6) (by decide) (G_binitM.mono (by decide)) b_binit
  have G_cinitC := ok_cinit (P := P) (w := w) (base := base) F_cinit pf skCC (supM_ok (c.fact 122 rfl)) cC mon_qe G_ck b_ck F_ck.kp (He.glo_ok X G (c.fact 51 rfl)) G_ckm b_ckm F_ckm.kp (He.glo_ok X G (c.fact 108 rfl)) G_ckr b_ckr F_ckr.kp (He.glo_ok X G (c.fact 110 rfl)) (k := 7) (by decide) (G_binitC.mono (by decide)) b_binit
  have G_minitX := ok_minit (P := P) (w := w) (base := base) F_minit pf skXM (supM_ok (c.fact 123 rfl)) G_ck b_ck F_ck.kp (He.glo_ok X G (c.fact 51 rfl)) G_cmi b_cmi F_cmi.kp (He.glo_ok X G (c.fact 115 rfl)) (k := 6) (by decide) (G_binitX.mono (by decide)) b_binit
  have G_cinitX := ok_cinit (P := P) (w := w) (base := base) F_cinit pf skXC (supM_ok (c.fact 124 rfl)) cX mon_qe G_ck b_ck F_ck.kp (He.glo_ok X G (c.fact 51 rfl)) G_ckm b_ckm F_ckm.kp (He.glo_ok X G (c.fact 108 rfl)) G_ckr b_ckr F_ckr.kp (He.glo_ok X G (c.fact 110 rfl)) (k := 7) (by decide) G_minitX b_minit
  have G_xinitX := ok_xinit (P := P) (w := w) (base := base) F_xinit pf skXX (supM_ok (c.fact 125 rfl)) G_cinitX b_cinit
  have MKB := He.mkr_ok (c.fact 126 rfl)
  have MKM := He.mkr_ok (c.fact 127 rfl)
  have MKC := He.mkr_ok (c.fact 128 rfl)
  have MKX := He.mkr_ok (c.fact 129 rfl)
  have MKY := He.mkr_ok (c.fact 130 rfl)
  have clY := He.cls_ok (c.fact 131 rfl)
  have nbY := He.noat_ok (c.fact 132 rfl)
  have G_tyi := ok_tyi (P := P) (w := w) (mg := mg) (base := base) F_tyi clY nbY
  have G_btryB := ok_btry (P := P) (w := w) (base := base) (CB := He.ga K "Book") F_btry MKY G_tyi b_tyi (He.glo_ok X G (c.fact 133 rfl))
  have G_bundB := ok_bund (P := P) (w := w) (base := base) (CT := He.ga K "Table") F_bund T cB mon_qe XxND
  have G_btryM := ok_btry (P := P) (w := w) (base := base) (CB := He.ga K "Mirrored") F_btry MKY G_tyi b_tyi (He.glo_ok X G (c.fact 133 rfl))
  have G_bundM := ok_bund (P := P) (w := w) (base := base) (CT := He.ga K "Table") F_bund T cM mon_qe XxND
  have G_btryC := ok_btry (P := P) (w := w) (base := base) (CB := He.ga K "Capped") F_btry MKY G_tyi b_tyi (He.glo_ok X G (c.fact 133 rfl))
  have G_bundC := ok_bund (P := P) (w := w) (base := base) (CT := He.ga K "Table") F_bund T cC mon_qe XxND
  have G_btryX := ok_btry (P := P) (w := w) (base := base) (CB := He.ga K "CappedMirror") F_btry MKY G_tyi b_tyi (He.glo_ok X G (c.fact 133 rfl))
  have G_bundX := ok_bund (P := P) (w := w) (base := base) (CT := He.ga K "Table") F_bund T cX mon_qe XxND
  have G_mtryM := ok_mtry (P := P) (w := w) (base := base) F_mtry pf skMM (supM_ok (c.fact 134 rfl)) G_btryM b_btry
  have G_ctryC := ok_ctry (P := P) (w := w) (base := base) F_ctry pf skCC (supM_ok (c.fact 135 rfl)) G_btryC b_btry
  have G_mtryX := ok_mtry (P := P) (w := w) (base := base) F_mtry pf skXM (supM_ok (c.fact 136 rfl)) G_btryX b_btry
  have G_ctryX := ok_ctry (P := P) (w := w) (base := base) F_ctry pf skXC (supM_ok (c.fact 137 rfl)) G_mtryX b_mtry
  have G_xtryX := ok_xtry (P := P) (w := w) (base := base) F_xtry pf skXX (supM_ok (c.fact 138 rfl)) G_ctryX b_ctry
  have G_mundM := ok_mund (P := P) (w := w) (base := base) F_mund pf skMM (supM_ok (c.fact 139 rfl)) G_bundM b_bund
  have G_cundC := ok_cund (P := P) (w := w) (base := base) F_cund pf skCC (supM_ok (c.fact 140 rfl)) G_bundC b_bund
  have G_mundX := ok_mund (P := P) (w := w) (base := base) F_mund pf skXM (supM_ok (c.fact 141 rfl)) G_bundX b_bund
  have G_cundX := ok_cund (P := P) (w := w) (base := base) F_cund pf skXC (supM_ok (c.fact 142 rfl)) G_mundX b_mund
  have G_xundX := ok_xund (P := P) (w := w) (base := base) F_xund pf skXX (supM_ok (c.fact 143 rfl)) G_cundX b_cund
  have G_cell := ok_cell (P := P) (w := w) (mg := mg) (base := base) F_cell T
  have G_source := ok_source (P := P) (w := w) (mg := mg) (base := base) F_source T
  have G_draw := ok_draw (P := P) (w := w) (mg := mg) (base := base) F_draw
  have G_choose := ok_choose (P := P) (w := w) (base := base) F_choose T G_draw b_draw F_draw.kp (He.glo_ok X G (c.fact 146 rfl))
  have G_eq := ok_eq (P := P) (w := w) (mg := mg) (base := base) F_eq T
  have G_ltx := ok_ltx (P := P) (w := w) (mg := mg) (base := base) F_ltx T
  have G_ltb := ok_ltb (P := P) (w := w) (base := base) (cR := 0) F_ltb (He.glo_ok X G (c.fact 26 rfl)) cr cm GR ⟨_, _, G_ltx, b_ltx, F_ltx.kp, (He.glo_ok X G (c.fact 149 rfl))⟩
  have G_lpu := ok_lpu (P := P) (w := w) (mg := mg) (base := base) F_lpu T
  have G_lpb := ok_lpb (P := P) (w := w) (base := base) F_lpb ⟨_, _, G_lpu, b_lpu, F_lpu.kp, (He.glo_ok X G (c.fact 152 rfl))⟩
  have G_lky := ok_lky (P := P) (w := w) (base := base) F_lky ⟨_, _, G_draw, b_draw, F_draw.kp, (He.glo_ok X G (c.fact 146 rfl))⟩ ⟨_, _, G_choose, b_choose, F_choose.kp, (He.glo_ok X G (c.fact 147 rfl))⟩
  have G_lls := ok_lls (P := P) (w := w) (base := base) F_lls T ⟨_, _, G_draw, b_draw, F_draw.kp, (He.glo_ok X G (c.fact 146 rfl))⟩ ⟨_, _, G_lky, b_lky, F_lky.kp, (He.glo_ok X G (c.fact 151 rfl))⟩ ⟨_, _, G_lpb, b_lpb, F_lpb.kp, (He.glo_ok X G (c.fact 153 rfl))⟩
  have G_ldu := ok_ldu (P := P) (w := w) (base := base) F_ldu T ⟨_, _, G_ltx, b_ltx, F_ltx.kp, (He.glo_ok X G (c.fact 149 rfl))⟩
  have G_lsnB := ok_lsnB (P := P) (w := w) (base := base) (f := He.ga K "_law_seen") F_lsn T TQ cB h_qsB G_qsB b_qsB h_tabB G_tabB b_tabB h_chB G_chB b_chB h_cntB G_cntB b_cntB G_ttext b_ttext mX s_lenB1 s_lenB2 G_lenB b_lenB s_repB1 s_repB2 G_repB b_repB
  have G_lsnM := ok_lsnM (P := P) (w := w) (base := base) (f := He.ga K "_law_seen") F_lsn T TQ cM h_qsM G_qsM b_qsM h_tabM G_tabM b_tabM h_chM G_chM b_chM h_cntM G_cntM b_cntM G_ttext b_ttext mX s_lenM1 s_lenM2 G_lenM b_lenM s_repM1 s_repM2 G_repM b_repM
  have G_lsnC := ok_lsnC (P := P) (w := w) (base := base) (f := He.ga K "_law_seen") F_lsn T TQ cC h_qsC G_qsC b_qsC h_tabC G_tabC b_tabC h_chC G_chC b_chC h_cntC G_cntC b_cntC h_mostC G_mostC b_mostC G_ttext b_ttext mX s_lenC1 s_lenC2 G_lenC b_lenC s_repC1 s_repC2 G_repC b_repC
  have G_lsnX := ok_lsnX (P := P) (w := w) (base := base) (f := He.ga K "_law_seen") F_lsn T TQ cX h_qsX G_qsX b_qsX h_tabX G_tabX b_tabX h_chX G_chX b_chX h_cntX G_cntX b_cntX h_mostX G_mostX b_mostX G_ttext b_ttext mX s_lenX1 s_lenX2 G_lenX b_lenX s_repX1 s_repX2 G_repX b_repX
  have ne_0_1 : ¬ tb0 K (He.ga K "_law_is_new") = tb0 K (He.ga K "_law_are_refused") := tabN_ok (c.fact 164 rfl)
  have mT_lnw : (tb0 K (He.ga K "_law_is_new"), lamQ "_law_is_new") ∈ TbL K := .head _
  have uT_lnw : ∀ p ∈ TbL K, p.1 = tb0 K (He.ga K "_law_is_new") → p.2 = lamQ "_law_is_new" := fun p hp e => by
      rcases List.mem_cons.mp hp with z | hp
      · rw [z]
      have z := List.mem_singleton.mp hp
      rw [z] at e; exact absurd e (fun y => ne_0_1 y.symm)
  have mT_lrr : (tb0 K (He.ga K "_law_are_refused"), lamQ "_law_are_refused") ∈ TbL K := .tail _ (.head _)
  have uT_lrr : ∀ p ∈ TbL K, p.1 = tb0 K (He.ga K "_law_are_refused") → p.2 = lamQ "_law_are_refused" := fun p hp e => by
      rcases List.mem_cons.mp hp with z | hp
      · rw [z] at e; exact absurd e ne_0_1
      have z := List.mem_singleton.mp hp
      rw [z]
  have G_lmd := ok_lmd (P := P) (w := w) (base := base) (CK := (ckOf (He.ga K "Book") (He.ga K "Mirrored") (He.ga K "Capped") (He.ga K "CappedMirror"))) (T := TbL K) F_lmd MKB (G_binitB.mono (by decide)) b_binit (He.glo_ok X G (c.fact 61 rfl)) MKM (G_minitM.mono (by decide)) b_minit (He.glo_ok X G (c.fact 73 rfl)) MKC (G_cinitC.mono (by decide)) bk_cinit (He.glo_ok X G (c.fact 85 rfl)) MKX (G_xinitX.mono (by decide)) bk_xinit (He.glo_ok X G (c.fact 97 rfl))
  have G_lkdB := ok_lkd (P := P) (w := w) (mg := mg) (base := base) F_lkd T cB.cl (isB_ok (c.fact 165 rfl)) (isB_ok (c.fact 166 rfl)) (isB_ok (c.fact 167 rfl)) (He.glo_ok X G (c.fact 73 rfl)) (He.glo_ok X G (c.fact 85 rfl)) (He.glo_ok X G (c.fact 97 rfl))
  have G_lnwB := ok_lnw (P := P) (w := w) (base := base) (kind := 0) (Tb := TbL K) (by decide) F_lnw rc_lnw (hT _ (.head _)) mT_lnw uT_lnw T cB (isB_ok (c.fact 168 rfl)) (He.glo_ok X G (c.fact 61 rfl)) ⟨_, _, G_lkdB, b_lkd, F_lkd.kp, (He.glo_ok X G (c.fact 161 rfl))⟩ (He.meth_ok (c.fact 169 rfl)) (by decide) G_btryB b_btry (He.meth_ok (c.fact 170 rfl)) (by decide) G_bundB b_bund ⟨_, _, G_ldu, b_ldu, F_ldu.kp, (He.glo_ok X G (c.fact 156 rfl))⟩ F_said b_said F_said.kp (He.glo_ok X G (c.fact 157 rfl)) (He.glo_ok X G (c.fact 48 rfl)) (He.glo_ok X G (c.fact 50 rfl)) (He.glo_ok X G (c.fact 46 rfl)) (He.glo_ok X G (c.fact 159 rfl)) (He.glo_ok X G (c.fact 42 rfl)) (He.glo_ok X G (c.fact 107 rfl)) (He.glo_ok X G (c.fact 112 rfl)) (He.glo_ok X G (c.fact 114 rfl)) (.inr ⟨(ex_ok (c.fact 178 rfl)), (.inr ⟨(ex_ok (c.fact 177 rfl)), (.inr ⟨(ex_ok (c.fact 176 rfl)), (.inr ⟨(ex_ok (c.fact 175 rfl)), (.inr ⟨(ex_ok (c.fact 174 rfl)), (.inr ⟨(ex_ok (c.fact 173 rfl)), (.inr ⟨(ex_ok (c.fact 172 rfl)), (.inl ⟨(ex_ok (c.fact 171 rfl)), rfl⟩)⟩)⟩)⟩)⟩)⟩)⟩)⟩) G_lsnB F_lsn.kp (He.glo_ok X G (c.fact 158 rfl)) G_eq F_eq.kp (He.glo_ok X G (c.fact 148 rfl))
  have G_lkdM := ok_lkd (P := P) (w := w) (mg := mg) (base := base) F_lkd T cM.cl (isB_ok (c.fact 179 rfl)) (isB_ok (c.fact 180 rfl)) (isB_ok (c.fact 181 rfl)) (He.glo_ok X G (c.fact 73 rfl)) (He.glo_ok X G (c.fact 85 rfl)) (He.glo_ok X G (c.fact 97 rfl))
  have G_lnwM := ok_lnw (P := P) (w := w) (base := base) (kind := 1) (Tb := TbL K) (by decide) F_lnw rc_lnw (hT _ (.head _)) mT_lnw uT_lnw T cM (isB_ok (c.fact 182 rfl)) (He.glo_ok X G (c.fact 61 rfl)) ⟨_, _, G_lkdM, b_lkd, F_lkd.kp, (He.glo_ok X G (c.fact 161 rfl))⟩ (He.meth_ok (c.fact 183 rfl)) (by decide) G_mtryM b_mtry (He.meth_ok (c.fact 184 rfl)) (by decide) G_mundM b_mund ⟨_, _, G_ldu, b_ldu, F_ldu.kp, (He.glo_ok X G (c.fact 156 rfl))⟩ F_said b_said F_said.kp (He.glo_ok X G (c.fact 157 rfl)) (He.glo_ok X G (c.fact 48 rfl)) (He.glo_ok X G (c.fact 50 rfl)) (He.glo_ok X G (c.fact 46 rfl)) (He.glo_ok X G (c.fact 159 rfl)) (He.glo_ok X G (c.fact 42 rfl)) (He.glo_ok X G (c.fact 107 rfl)) (He.glo_ok X G (c.fact 112 rfl)) (He.glo_ok X G (c.fact 114 rfl)) (.inr ⟨(ex_ok (c.fact 178 rfl)), (.inr ⟨(ex_ok (c.fact 177 rfl)), (.inr ⟨(ex_ok (c.fact 176 rfl)), (.inr ⟨(ex_ok (c.fact 175 rfl)), (.inr ⟨(ex_ok (c.fact 174 rfl)), (.inr ⟨(ex_ok (c.fact 173 rfl)), (.inr ⟨(ex_ok (c.fact 172 rfl)), (.inl ⟨(ex_ok (c.fact 171 rfl)), rfl⟩)⟩)⟩)⟩)⟩)⟩)⟩)⟩) G_lsnM F_lsn.kp (He.glo_ok X G (c.fact 158 rfl)) G_eq F_eq.kp (He.glo_ok X G (c.fact 148 rfl))
  have G_lkdC := ok_lkd (P := P) (w := w) (mg := mg) (base := base) F_lkd T cC.cl (isB_ok (c.fact 185 rfl)) (isB_ok (c.fact 186 rfl)) (isB_ok (c.fact 187 rfl)) (He.glo_ok X G (c.fact 73 rfl)) (He.glo_ok X G (c.fact 85 rfl)) (He.glo_ok X G (c.fact 97 rfl))
  have G_lnwC := ok_lnw (P := P) (w := w) (base := base) (kind := 2) (Tb := TbL K) (by decide) F_lnw rc_lnw (hT _ (.head _)) mT_lnw uT_lnw T cC (isB_ok (c.fact 188 rfl)) (He.glo_ok X G (c.fact 61 rfl)) ⟨_, _, G_lkdC, b_lkd, F_lkd.kp, (He.glo_ok X G (c.fact 161 rfl))⟩ (He.meth_ok (c.fact 189 rfl)) (by decide) G_ctryC b_ctry (He.meth_ok (c.fact 190 rfl)) (by decide) G_cundC b_cund ⟨_, _, G_ldu, b_ldu, F_ldu.kp, (He.glo_ok X G (c.fact 156 rfl))⟩ F_said b_said F_said.kp (He.glo_ok X G (c.fact 157 rfl)) (He.glo_ok X G (c.fact 48 rfl)) (He.glo_ok X G (c.fact 50 rfl)) (He.glo_ok X G (c.fact 46 rfl)) (He.glo_ok X G (c.fact 159 rfl)) (He.glo_ok X G (c.fact 42 rfl)) (He.glo_ok X G (c.fact 107 rfl)) (He.glo_ok X G (c.fact 112 rfl)) (He.glo_ok X G (c.fact 114 rfl)) (.inr ⟨(ex_ok (c.fact 178 rfl)), (.inr ⟨(ex_ok (c.fact 177 rfl)), (.inr ⟨(ex_ok (c.fact 176 rfl)), (.inr ⟨(ex_ok (c.fact 175 rfl)), (.inr ⟨(ex_ok (c.fact 174 rfl)), (.inr ⟨(ex_ok (c.fact 173 rfl)), (.inr ⟨(ex_ok (c.fact 172 rfl)), (.inl ⟨(ex_ok (c.fact 171 rfl)), rfl⟩)⟩)⟩)⟩)⟩)⟩)⟩)⟩) G_lsnC F_lsn.kp (He.glo_ok X G (c.fact 158 rfl)) G_eq F_eq.kp (He.glo_ok X G (c.fact 148 rfl))
  have G_lkdX := ok_lkd (P := P) (w := w) (mg := mg) (base := base) F_lkd T cX.cl (isB_ok (c.fact 191 rfl)) (isB_ok (c.fact 192 rfl)) (isB_ok (c.fact 193 rfl)) (He.glo_ok X G (c.fact 73 rfl)) (He.glo_ok X G (c.fact 85 rfl)) (He.glo_ok X G (c.fact 97 rfl))
  have G_lnwX := ok_lnw (P := P) (w := w) (base := base) (kind := 3) (Tb := TbL K) (by decide) F_lnw rc_lnw (hT _ (.head _)) mT_lnw uT_lnw T cX (isB_ok (c.fact 194 rfl)) (He.glo_ok X G (c.fact 61 rfl)) ⟨_, _, G_lkdX, b_lkd, F_lkd.kp, (He.glo_ok X G (c.fact 161 rfl))⟩ (He.meth_ok (c.fact 195 rfl)) (by decide) G_xtryX b_xtry (He.meth_ok (c.fact 196 rfl)) (by decide) G_xundX b_xund ⟨_, _, G_ldu, b_ldu, F_ldu.kp, (He.glo_ok X G (c.fact 156 rfl))⟩ F_said b_said F_said.kp (He.glo_ok X G (c.fact 157 rfl)) (He.glo_ok X G (c.fact 48 rfl)) (He.glo_ok X G (c.fact 50 rfl)) (He.glo_ok X G (c.fact 46 rfl)) (He.glo_ok X G (c.fact 159 rfl)) (He.glo_ok X G (c.fact 42 rfl)) (He.glo_ok X G (c.fact 107 rfl)) (He.glo_ok X G (c.fact 112 rfl)) (He.glo_ok X G (c.fact 114 rfl)) (.inr ⟨(ex_ok (c.fact 178 rfl)), (.inr ⟨(ex_ok (c.fact 177 rfl)), (.inr ⟨(ex_ok (c.fact 176 rfl)), (.inr ⟨(ex_ok (c.fact 175 rfl)), (.inr ⟨(ex_ok (c.fact 174 rfl)), (.inr ⟨(ex_ok (c.fact 173 rfl)), (.inr ⟨(ex_ok (c.fact 172 rfl)), (.inl ⟨(ex_ok (c.fact 171 rfl)), rfl⟩)⟩)⟩)⟩)⟩)⟩)⟩)⟩) G_lsnX F_lsn.kp (He.glo_ok X G (c.fact 158 rfl)) G_eq F_eq.kp (He.glo_ok X G (c.fact 148 rfl))
  have G_lnw := ok_lnwA (P := P) (w := w) (base := base) (CT := He.ga K "Table") (CK := (ckOf (He.ga K "Book") (He.ga K "Mirrored") (He.ga K "Capped") (He.ga K "CappedMirror"))) G_lnwB G_lnwM G_lnwC G_lnwX
  have G_lrr := ok_lrr (P := P) (w := w) (base := base) (CK := (ckOf (He.ga K "Book") (He.ga K "Mirrored") (He.ga K "Capped") (He.ga K "CappedMirror"))) (Tb := TbL K) F_lrr rc_lrr (hT _ (.tail _ (.head _))) mT_lrr uT_lrr T MKB (G_binitB.mono (by decide)) b_binit (He.glo_ok X G (c.fact 61 rfl)) MKM (G_minitM.mono (by decide)) b_minit (He.glo_ok X G (c.fact 73 rfl)) MKC (G_cinitC.mono (by decide)) bk_cinit (He.glo_ok X G (c.fact 85 rfl)) MKX (G_xinitX.mono (by decide)) b_xinit (He.glo_ok X G (c.fact 97 rfl)) ⟨_, _, G_choose, b_choose, F_choose.kp, (He.glo_ok X G (c.fact 147 rfl))⟩ F_said b_said F_said.kp (He.glo_ok X G (c.fact 157 rfl)) (He.glo_ok X G (c.fact 48 rfl)) (He.glo_ok X G (c.fact 50 rfl)) (He.glo_ok X G (c.fact 46 rfl)) (He.glo_ok X G (c.fact 159 rfl)) (He.glo_ok X G (c.fact 42 rfl)) (He.glo_ok X G (c.fact 107 rfl)) (He.glo_ok X G (c.fact 112 rfl)) (He.glo_ok X G (c.fact 114 rfl)) (.inr ⟨(ex_ok (c.fact 199 rfl)), (.inr ⟨(ex_ok (c.fact 198 rfl)), (.inl ⟨(ex_ok (c.fact 197 rfl)), rfl⟩)⟩)⟩)
  exact ok_law (P := P) (w := w) (base := base) (CK := (ckOf (He.ga K "Book") (He.ga K "Mirrored") (He.ga K "Capped") (He.ga K "CappedMirror"))) F_law T TQ ⟨_, _, G_cell, b_cell, F_cell.kp, (He.glo_ok X G (c.fact 144 rfl))⟩ ⟨_, _, G_source, b_source, F_source.kp, (He.glo_ok X G (c.fact 145 rfl))⟩ ⟨_, _, G_draw, b_draw, F_draw.kp, (He.glo_ok X G (c.fact 146 rfl))⟩ ⟨_, _, G_lls, b_lls, F_lls.kp, (He.glo_ok X G (c.fact 154 rfl))⟩ ⟨_, _, G_ltb, b_ltb, F_ltb.kp, (He.glo_ok X G (c.fact 150 rfl))⟩ ⟨_, _, G_ltx, b_ltx, F_ltx.kp, (He.glo_ok X G (c.fact 149 rfl))⟩ ⟨_, _, G_lmd, b_lmd, F_lmd.kp, (He.glo_ok X G (c.fact 160 rfl))⟩ MKC (G_cinitC.mono (by decide)) b1_cinit vd_cinit (He.glo_ok X G (c.fact 85 rfl)) MKX (G_xinitX.mono (by decide)) b1_xinit vd_xinit (He.glo_ok X G (c.fact 97 rfl)) G_ttext b_ttext mX G_lnw F_lnw.kp (He.glo_ok X G (c.fact 162 rfl)) G_lrr F_lrr.kp (He.glo_ok X G (c.fact 163 rfl))
end Q

set_option maxHeartbeats 0
open PySem PySem.W PySem.Calls PyProof.Rows
theorem PySem.Challenge.cw_countalike_k27_books_made_and_described_holds : PySem.Challenge.rw_countalike_k27_books_made_and_described.Holds := by
  w_on; o_law
  refine HandSHeadRun.head_any (r := OpenLaw.row PySem.Challenge.rw_countalike_k27_books_made_and_described) (q := view (OpenLaw.row PySem.Challenge.rw_countalike_k27_books_made_and_described).prog [75]) (H := Q.hk) (ob := Q.ob) (M := 30000) (loose := Q.nmL)
    (d := HandSHeadRun.topDef (OpenLaw.row PySem.Challenge.rw_countalike_k27_books_made_and_described).prog 75) (kwd := []) Q.ob_eq
    (by kernel_rfl) (fun s => by kernel_rfl) Q.run (by kernel_rfl) (by kernel_rfl) (by kernel_rfl) (by rfl) (by first | assumption | decide +kernel) (by decide +kernel) ⟨rfl, rfl, rfl, rfl, rfl, by decide +kernel⟩ ?hw ?hc
  case hw => w_witness2
  case hc =>
    refine Ca.walk_ofGT (l := PySem.Challenge.rw_countalike_k27_books_made_and_described) (n := 63) (k := 17) rfl (by decide) (by kernel_rfl) ⟨rfl, by decide, by decide⟩ ?F
    intro w mg fa h Y G hmg0
    obtain ⟨K, KX, c, cs⟩ := Y
    have hmg : mg ("law" : PySem.Str) = some (.ref fa) := by
      have e : (HandSHeadRun.topDef (OpenLaw.row PySem.Challenge.rw_countalike_k27_books_made_and_described).prog 75).name = ("law" : PySem.Str) := by kernel_rfl
      rw [← e]
      exact hmg0
    exact ⟨K, [Ca.ctD K Q.df_lnw, Ca.ctD K Q.df_lrr], Q.spLawT K (Q.TbL K), KX, (fun p hp => by
        rcases List.mem_cons.mp hp with e | hp
        · rw [e]; exact c.empty _ (.head _)
        rw [List.mem_singleton.mp hp]; exact c.empty _ (.tail _ (.head _))), (fun p hp => by
        rcases List.mem_cons.mp hp with e | hp
        · rw [e]; exact c.out _ (.head _)
        rw [List.mem_singleton.mp hp]; exact c.out _ (.tail _ (.head _))), (fun p hp => by
        rcases List.mem_cons.mp hp with e | hp
        · rw [e]; exact c.hd _ (.head _)
        rw [List.mem_singleton.mp hp]; exact c.hd _ (.tail _ (.head _))),
      fun H a ns hl hT hS => ⟨a, ns, rfl, hS, hl, (fun p hp => by
        rcases List.mem_cons.mp hp with e | hp
        · rw [e]; exact hT _ (.head _)
        rw [List.mem_singleton.mp hp]; exact hT _ (.tail _ (.head _))), fun _ => rfl⟩, Q.facts KX G hmg c.c (c.code _ (.head _)) (c.code _ (.tail _ (.head _))) cs ⟨beq_self_eq_true _, by kernel_rfl⟩⟩

