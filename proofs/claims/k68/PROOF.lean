import PyProof.Rows.All
import Wide.All
import OpenK.AllK
import Wide.FinOn
import PyProof.EqAt
import PyProof.EqKinds
import PyProof.TupleCall
import HandS.Base
import HandS.Call
import HandS.List
import HandS.Ends
import HandS.More
import HandS.Exc
import HandS.Star
import HandS.Defaults
import HandS.Words
import HandS.HeadEnd
import HandS.HeadHook1
import HandS.HeadHook2
import HandS.Head0
import HandS.Head1
import HandS.Head2
import HandS.Property
import KE.KStateDown
import HandS.ClsMeth
import HandS.Comp
import HandS.Set
import HandS.Strs
import HandS.SetBool
import HandS.Dict
import HandS.IsInst
import KE.SortData
import PyProof.ReprRoads
import HandS.FStr
import HandS.Text
import HandS.StrMore
import HandS.Evl
import HandS.TryOnly
import HandS.TryMany
import HandS.ExcOwn
import HandS.WordsExc
import HandS.WordsList
import HandS.Wide
import HandS.TupAny
import HandS.Style
import HandS.Conv
import HandS.Flow
import HandS.CallLocal
import HandS.Iter
import PyProof.DictDisplay
import HandS.TupSets
import HandS.GenList
import HandS.GenYield
import PyProof.GenComp
import KE.GoesEnum
import HandS.SetKeys
import HandS.Deep
import KE.KIndexOf
import KE.KDictZip
import KE.GoesZip
import HandS.Zip
import PyProof.ReprLen
import KE.KOpsOwn
import HandS.RaiseMore
import HandS.DictTup
import PyProof.InstNe
import OpenK.KMake
import PySem.Challenge.RW_countalike_k68_whole_coverings_never_cou
set_option Elab.async false
set_option linter.all false
set_option maxRecDepth 100000
set_option maxHeartbeats 4000000
/-! defs that are called where no repr is under way (the stack's guards are known to be none) -/
namespace Ca
open PySem PySem.Spec PyProof.Rows L2
def FnG (P : Program) (w : World) (K : PySem.W.Frag) (mg : PySem.Str → Option Value) (base : Heap) (CX : CXT) (k : Nat) (f : Addr) (sp : Sp) : Prop :=
  ∀ (A : Around) (outer : List Env) (s : Shared) (H : Hp) (us : List Value) (vs : List V) (Q : VK) (E : XK), A.guards = some [] → Room k A →
    Env0 P w K mg base A outer s H → Vals vs us → sp vs H Q E → codeAny (model P w) A (.call (.ref f) ⟨us, []⟩) (CR CX outer P w H s Q E) s
section
variable {P : Program} {w : World} {K : PySem.W.Frag} {mg : PySem.Str → Option Value} {base : Heap} {CX : CXT} {k : Nat} {f : Addr} {fd : FuncData} {sp : Sp}
  {name qual : PySem.Str} {params : Arguments} {body : List Stmt} {scope : Scope} {N ps : List PySem.Str}
theorem FnG.mono {j : Nat} (F : FnG P w K mg base CX j f sp) (h : j ≤ k) : FnG P w K mg base CX k f sp :=
  fun A outer s H us vs Q E hg hr => F A outer s H us vs Q E hg (hr.mono h)
theorem fng_of (F : FunD K name qual params body scope [] [] f fd) (S : FnScope N ps scope)
    (bd : ∀ (s : Shared) (us : List Value), us.length = ps.length → BindsTo s fd ⟨us, []⟩ (ps.zip us)) (len : ∀ vs H Q E, sp vs H Q E → vs.length = ps.length)
    (hbody : ∀ (cdv : Value) (A : Around) (outer : List Env) (s : Shared) (H : Hp) (vs : List V) (Q : VK) (E : XK), A.guards = some [] →
      Room k (A.deeper (envOfC qual scope s.heap.objs.size f cdv)) → sp vs H Q E →
      ∃ t, PSs (cxOf CX P w K mg base N qual scope f cdv A outer s H E) body t ∧ t { nx := fun _ H' => Q .non H', rt := Q } (start N vs) H) :
    FnG P w K mg base CX (k + 1) f sp := by
  obtain ⟨oc, od, dV, kV, doc, pm, an, cdv, ct, osl, rfl, lk, hcd, _, _⟩ := F.ex
  intro A outer s H us vs Q E hg hr e0 r hsp
  have l1 := len _ _ _ _ hsp
  have l2 : us.length = ps.length := by rw [← r.length]; exact l1
  refine StX.run_bnd (G := fun zs H2 => zs = vs ∧ H2 = H) lk hcd S hr e0 (fun A' Ex Q' h => ?_) fun s2 H2 zs ⟨e1, e2⟩ hr' => ?_
  · exact bd s us l2 _ _ _ _ (h s H vs us e0 (Un.kept fun _ _ e => e) rfl (fun _ _ z => z) r l1 ⟨rfl, rfl⟩)
  · subst e1 e2
    exact hbody cdv A outer s2 _ _ Q E hg hr' hsp
end
section
variable {X : Cx} {CX : CXT} {k : Nat} {f : Addr} {sp : Sp} {E : XK} {x : PySem.Str} {p pos : Pos} {e : Expr} {es : List Expr} {t : TA}
theorem run_fnG {pins : List (Addr × Obj)} {σ : L2.St} {H : Hp} {s : Shared} {Q : VK} {us : List Value} {vs : List V} (F : FnG X.prog X.w X.K X.mg X.base CX k f sp)
    (hg : X.A.guards = some []) (hr : Room k X.A) (hx : Passes CX X E) (I : Inv X pins σ H s) (r : Vals vs us) (h : sp vs H Q E) :
    wpAny (model X.prog X.w) X.A (call (.ref f) us) (EP X pins σ Q) X.xe s := by
  refine wpAny_call (codeAny_mono (F X.A X.stack s H us vs Q E hg hr I.env0 r h) fun r s' hq => ?_)
  cases r with
  | error e => exact hx pins σ H s e s' I hq
  | ok fl =>
    cases fl with
    | ret u => exact I.after hq
    | _ => exact False.elim hq
/-- f(e, ..) of such a def -/
theorem pe_callG (F : FnG X.prog X.w X.K X.mg X.base CX k f sp) (hg : X.A.guards = some []) (hr : Room k X.A) (hgl : Gl X x) (hm : X.mg x = some (.ref f)) (hk : PySem.W.keepIn X.K (.ref f) = true)
    (hx : Passes CX X E) (ha : PA X (e :: es) t) (hdb : (x == ("__debug__" : PySem.Str)) = false := by decide)
    (he : starEach (e :: es) X.env = (false, eval e X.env) :: starEach es X.env := by rfl) (hpl : (backTo pos (starEach es X.env)).any (·.1) = false := by rfl) :
    PE X (.Call (.Name x p) (e :: es) [] pos) (tCall sp [] E t) := by
  refine ⟨fun pins s σ H Q I h => wpAny_Call_Name_kw (ld_glob I hgl hm ?_ hdb)⟩
  refine PySem.W.callWith_K (h₀ := X.base) I.ok.mod.kin hk (thn (ha.run pos pins s σ H _ I h) fun us s1 ⟨vs, H1, I1, r, q⟩ => ⟨I1.kIn, ?_⟩) he hpl
  have q2 : sp (vs ++ []) H1 Q E := q
  rw [List.append_nil] at q2
  exact run_fnG F hg hr hx I1 r q2
end
/-! ### the law's own call -/
theorem law_callG {P : Program} {w : World} {K : PySem.W.Frag} {mg mb : PySem.Str → Option Value} {k : Nat} {fa a : Addr} {sp : Sp} {s₁ : Shared} {vs : List Value} {ns : List Int}
    (KX : K.In s₁.heap) (gns : s₁.heap.Ns mainGlobals mg) (bns : s₁.heap.Ns builtinsNs mb) (bb : ∀ x : PySem.Str, x ≠ "__name__" → mb x = bootBuiltins x) (lim : s₁.heap.NoLimit)
    (hgen : s₁.gens = #[]) (ha : s₁.heap.get? a = some { cls := .type "list", data := .seq vs.toArray }) (hi : IntsAre vs ns) (hl : ns.length ≤ sizeLine) (hr : Room k callerA)
    (F : ∀ base : Heap, K.In base → base.Ns mainGlobals mg → FnG P w K mg base CX0 k fa sp)
    (hsp : ∀ H : Hp, Only H → SqL K H a (ns.map V.int) → sp [.ref a] H (fun v _ => v = .bl true) fun _ _ _ => False) :
    codeAny (model P w) callerA (.call (.ref fa) ⟨[.ref a], []⟩) (fun r s' => r = .ok (.ret (.bool true)) ∧ OldK s₁.heap s'.heap ∧ s'.os = s₁.os ∧ AllBare s'.gens) s₁ := by
  have rv := vals_ints hi
  have lv := hi.length
  have main : ∀ H : Hp, Only H → SqL K H a (ns.map V.int) → HOk P w H s₁.heap → (∀ b, H b ≠ none → b = a) → (H a ≠ none → K.lookup a = none) →
      codeAny (model P w) callerA (.call (.ref fa) ⟨[.ref a], []⟩) (fun r s' => r = .ok (.ret (.bool true)) ∧ OldK s₁.heap s'.heap ∧ s'.os = s₁.os ∧ AllBare s'.gens) s₁ := by
    intro H only sq hok only_a inK
    have un_dict : ∀ {b : Addr} {o : Obj} {es : Array DictEntry} {ep : Nat}, s₁.heap.get? b = some o → o.data = .dict es ep → H b = none := fun {b o es ep} e d => by
      cases q : H b with
      | none => rfl
      | some u =>
        obtain rfl : b = a := only_a b (by rw [q]; simp)
        rw [ha] at e
        cases e
        cases (show Data.seq vs.toArray _ = Data.dict es ep from d)
    have ns_hid : ∀ {b : Addr} {m : PySem.Str → Option Value}, s₁.heap.Ns b m → (hidT s₁.heap H).Ns b m := fun {b m} ⟨o, es, ep, e, d, z⟩ =>
      ⟨o, es, ep, hidT_get e (un_dict e d), d, z⟩
    have kHid : K.In (hidT s₁.heap H) := fun b o e => by
      refine hidT_get (KX b o e) ?_
      cases q : H b with
      | none => rfl
      | some u =>
        obtain rfl : b = a := only_a b (by rw [q]; simp)
        rw [inK (by rw [q]; simp)] at e
        cases e
    have md : Mod K mg (hidT s₁.heap H) := ⟨kHid, ns_hid gns, ⟨mb, ns_hid bns, bb⟩, let ⟨mc, h1, h2⟩ := lim; ⟨mc, ns_hid h1, h2⟩⟩
    have env : Env0 P w K mg (hidT s₁.heap H) callerA [] s₁ H := ⟨rfl, md, fun b o e => of_hidT e, Nat.le_of_eq (hidT_size _ _), trivial,
      fun b hb => absurd (show b ∈ ([] : List Addr) from hb) (by simp), hok, .of_eq hgen⟩
    refine codeAny_mono (F _ kHid (ns_hid gns) callerA [] s₁ H [.ref a] [.ref a] _ _ rfl hr env (.cons rfl .nil) (hsp H only sq)) fun r s' h => ?_
    cases r with
    | error e => exact False.elim h
    | ok fl =>
      cases fl with
      | next => exact False.elim h
      | brk => exact False.elim h
      | cont => exact False.elim h
      | ret u =>
        obtain ⟨v, H', os, bare, un, hok', r', q⟩ := h
        obtain rfl : v = .bl true := q
        obtain rfl : u = Value.bool true := r'
        refine ⟨rfl, OldK.of_keep fun b o e => ?_, os, bare⟩
        cases q : H b with
        | none => exact un.keep b o e q (fun z => absurd (show b ∈ ([] : List Addr) from z) (by simp)) (by simp)
        | some u =>
          rcases only b with z | ⟨ob, xs, z⟩
          · rw [q] at z
            cases z
          · obtain ⟨e1, _⟩ := hok b _ z
            obtain ⟨e2, _⟩ := hok' b _ (un.frzs b ob _ z)
            rw [e] at e1
            cases e1
            exact e2
  cases hk : K.lookup a with
  | some o =>
    have e := KX a o hk
    rw [ha] at e
    cases e
    refine main (fun _ => none) (fun _ => .inl rfl) (.inr ⟨_, vs.toArray, _, hk, rfl, rfl, rfl, ?_, by simpa using rv⟩) (fun b u z => ?_) (fun b z => absurd rfl z) fun z => absurd rfl z
    · rw [List.size_toArray, lv]
      exact hl
    · cases (show (none : Option HO) = some u from z)
  | none =>
    let oa : Obj := { cls := .type "list", data := .seq vs.toArray }
    refine main (fun b => if b = a then some (.frz oa (.lst (ns.map V.int))) else none) (fun b => ?_) (.inl (.inr ⟨oa, if_pos rfl⟩)) (fun b u z => ?_) (fun b z => ?_) fun _ => hk
    · by_cases hb : b = a
      · exact .inr ⟨_, _, if_pos hb⟩
      · exact .inl (if_neg hb)
    · by_cases hb : b = a
      · cases (if_pos hb).symm.trans z
        subst hb
        refine ⟨ha, ?_, vs, _, rv, ha⟩
        rw [List.length_map]
        exact hl
      · cases (if_neg hb).symm.trans z
    · by_cases hb : b = a
      · exact hb
      · exact absurd (if_neg hb) z
theorem walk_ofG {l : PySem.W.OpenLaw} {n k : Nat} {q : Program} {loose : List PySem.Str} {XP : (PySem.Str → Option Value) → Heap → Prop} {YP : World → Heap → Prop} {d : DefRec}
    (hn : l.most = some n) (hn2 : n ≤ sizeLine) (hdf : d.params.defaults = []) (hr : Room k callerA)
    (F : ∀ (w : World) (mg : PySem.Str → Option Value) (fa : Addr) (h : Heap), YP w h → h.Ns mainGlobals mg → mg d.name = some (.ref fa) →
      ∃ (K : PySem.W.Frag) (sp : Sp), K.In h ∧ (∀ (H : Hp) (a : Addr) (ns : List Int), ns.length ≤ n → Only H → SqL K H a (ns.map V.int) →
          sp [.ref a] H (fun v _ => v = .bl true) fun _ _ _ => False) ∧ ∀ base : Heap, K.In base → base.Ns mainGlobals mg → FnG l.prog w K mg base CX0 k fa sp) :
    PySem.W.WalkO q loose XP YP l.row.toRowW d [] (fun f vs => PySem.call f vs) := by
  refine Att.attach_call hn hdf fun w s₀ s₁ mg mb fa o pm cd doc a vs ns G Y ho hd hcd hmg hobj hints hlen hg => ?_
  obtain ⟨K, sp, KX, hsp, hF⟩ := F w mg fa _ Y G.T.g hmg
  exact law_callG KX G.T.g G.T.b G.T.builtins G.T.nolimit hg hobj hints (Nat.le_trans hlen hn2) hr hF fun H hO hS => hsp H a ns hlen hO hS
end Ca

set_option maxHeartbeats 4000000
namespace Q
open PySem PySem.Spec PyProof.Rows L2 Ca
def top (i : Nat) : Stmt := PySem.Challenge.pw_countalike_k68_whole_coverings_never_cou.main.body.getD i (.Pass ⟨0, 0, 0, 0⟩)
end Q

set_option maxHeartbeats 4000000
/-! what is read off the top: facts (as Bools of the written part) and defs (found by an address of one's own) -/
namespace Ca
open PySem PySem.Spec PyProof.Rows L2 He
structure DfX where
  at_ : PySem.W.Frag → Addr
  name : PySem.Str
  qual : PySem.Str
  st : Stmt
abbrev DfX.see (d : DfX) (K : PySem.W.Frag) : FnW := match K.lookup (d.at_ K) with
  | some ⟨_, _, .func fd, _⟩ => some (fd.name, fd.qualname, fd.params, fd.body, fd.scope, fd.globals, fd.closure, fd.builtins)
  | _ => none
def DfX.due (d : DfX) : FnW := some (d.name, d.qual, defArgs d.st, .stmts (defBody d.st), defScope d.st, mainGlobals, [], builtinsNs)
def DfX.ok (d : DfX) (K : PySem.W.Frag) : Bool := PySem.W.keepIn K (.ref (d.at_ K)) && (match K.lookup (d.at_ K) with
  | some ⟨_, _, .func fd, _⟩ => PySem.W.codeIn K fd.code d.qual && dflB K fd.defaults []
  | _ => false)
theorem DfX.fun_ {d : DfX} {K : PySem.W.Frag} (e : d.see K = d.due) (c : d.ok K = true) : ∃ fd, FunD K d.name d.qual (defArgs d.st) (defBody d.st) (defScope d.st) [] [] (d.at_ K) fd := by
  obtain ⟨kp, c⟩ := ba c
  unfold DfX.see at e
  cases q : K.lookup (d.at_ K) with
  | none =>
    rw [q] at c
    cases c
  | some o =>
    obtain ⟨oc, od, dt, sl⟩ := o
    rw [q] at c e
    cases dt with
    | func fd =>
      obtain ⟨y1, y2, y3, y4, y5, y6, y7, y8, y9, y10, y11, y12, y13, y14, y15⟩ := fd
      unfold DfX.due at e
      have e1 := Option.some.inj e
      simp only [Prod.mk.injEq] at e1
      obtain ⟨z1, z2, z3, z4, z5, z6, z7, z8⟩ := e1
      subst z1 z2 z3 z4 z5 z6 z7 z8
      obtain ⟨k1, k2⟩ := ba c
      exact ⟨_, ⟨oc, od, y8, y9, y10, y11, y12, y13, y14, sl, rfl, q, k1, dflB_ok k2, .inl rfl⟩, kp⟩
    | _ => cases c
abbrev AlX : Type := Bool × List FnW
def seeX (fs : List (PySem.W.Frag → Bool)) (fn : List DfX) (K : PySem.W.Frag) : AlX := (fs.all (fun f => f K) && fn.all (fun d => d.ok K), fn.map fun d => d.see K)
def dueX (fn : List DfX) : AlX := (true, fn.map DfX.due)
def SaysX (fs : List (PySem.W.Frag → Bool)) (fn : List DfX) (K : PySem.W.Frag) : Prop := seeX fs fn K = dueX fn
def seeG (n : Nat) (fs : List (PySem.W.Frag → Bool)) (fn : List DfX) (g : Addr → Option Obj) : AlX := seeX fs fn (frG g (sysModules :: asD g n))
def hookX (n : Nat) (fs : List (PySem.W.Frag → Bool)) (fn : List DfX) : PySem.W.Hook where
  α := AlX
  obs := fun s => seeG n fs fn s.heap.get?
  val := fun _ => dueX fn
  says := fun _ h => ∃ K : PySem.W.Frag, K.In h ∧ SaysX fs fn K
  of := fun _ _ e => ⟨_, frG_in, e⟩
  keeps := fun _ _ _ ⟨K, hK, c⟩ k => ⟨K, PySem.W.Frag.In.keeps hK k, c⟩
theorem seeG_eq {n : Nat} {fs : List (PySem.W.Frag → Bool)} {fn : List DfX} {g : Addr → Option Obj} {s : Shared} (h : ∀ a, g a = s.heap.get? a) : seeG n fs fn g = (hookX n fs fn).obs s := by
  obtain rfl : g = s.heap.get? := funext h
  rfl
section
variable {fs : List (PySem.W.Frag → Bool)} {fn : List DfX} {K : PySem.W.Frag}
theorem SaysX.fact (c : SaysX fs fn K) (i : Nat) {f : PySem.W.Frag → Bool} (h : fs[i]? = some f := by rfl) : f K = true := by
  have z := congrArg (fun y : AlX => y.1) c
  exact List.all_eq_true.mp (ba z).1 f (List.mem_of_getElem? h)
theorem SaysX.def_ (c : SaysX fs fn K) (i : Nat) {d : DfX} (h : fn[i]? = some d := by rfl) : ∃ fd, FunD K d.name d.qual (defArgs d.st) (defBody d.st) (defScope d.st) [] [] (d.at_ K) fd := by
  have z1 := congrArg (fun y : AlX => y.1) c
  have z2 : fn.map (fun d => d.see K) = fn.map DfX.due := congrArg (fun y : AlX => y.2) c
  have z3 : (fn.map fun d => d.see K)[i]? = (fn.map DfX.due)[i]? := by rw [z2]
  rw [List.getElem?_map, List.getElem?_map, h] at z3
  exact DfX.fun_ (Option.some.inj z3) (List.all_eq_true.mp (ba z1).2 d (List.mem_of_getElem? h))
end
/-- the getter of a property of a class -/
def propG (K : PySem.W.Frag) (p : Addr) : Addr := match PySem.W.recIn K p "property" with
  | some (.ref g :: _) => g
  | _ => 0
def propB (x m : PySem.Str) (K : PySem.W.Frag) : Bool :=
  eqO (PySem.W.findIn K (.ref (ga K x)) m) (some (some (.ref (ma K (ga K x) m)))) && (eqO (PySem.W.specialIn K (.ref (ma K (ga K x) m)) "__get__") (some (some (.builtin "property.__get__"))) &&
    (decide (PySem.W.takesIn K (.ref (ma K (ga K x) m)) = some true) && (match PySem.W.recIn K (ma K (ga K x) m) "property" with
      | some (.ref _ :: _) => true
      | _ => false)))
theorem prop_ok {x m : PySem.Str} {K : PySem.W.Frag} (h : propB x m K = true) : PropOf K (ga K x) m (ma K (ga K x) m) (propG K (ma K (ga K x) m)) := by
  obtain ⟨h1, h⟩ := ba h
  obtain ⟨h2, h⟩ := ba h
  obtain ⟨h3, h4⟩ := ba h
  refine ⟨eqO_ok h1, eqO_ok h2, of_decide_eq_true h3, ?_⟩
  unfold propG
  cases q : PySem.W.recIn K (ma K (ga K x) m) "property" with
  | none =>
    rw [q] at h4
    cases h4
  | some l =>
    rw [q] at h4
    cases l with
    | nil => cases h4
    | cons v l =>
      cases v with
      | ref g => exact ⟨l, rfl⟩
      | _ => cases h4
end Ca

set_option maxHeartbeats 4000000
namespace Ca
open PySem PySem.Spec PyProof.Rows L2 He
/-- a class read by its name, its classmethods -/
def cmP (K : PySem.W.Frag) (x m : PySem.Str) : Addr := match PySem.W.findCls K (.ref (ga K x)) (.type "type") m with
  | some (.get _ (.ref p) _ _) => p
  | _ => 0
def cmG (K : PySem.W.Frag) (x m : PySem.Str) : Addr := match PySem.W.recIn K (cmP K x m) "classmethod" with
  | some (.ref g :: _) => g
  | _ => 0
def cmB (x m : PySem.Str) (K : PySem.W.Frag) : Bool :=
  (match PySem.W.findCls K (.ref (ga K x)) (.type "type") m with
    | some (.get (.builtin s) (.ref _) .none (.ref c)) => decide (s = "classmethod.__get__") && decide (c = ga K x)
    | _ => false) && ((match PySem.W.recIn K (cmP K x m) "classmethod" with
    | some (.ref _ :: _) => true
    | _ => false) && PySem.W.fnIn K (cmG K x m))
theorem cm_ok {x m : PySem.Str} {K : PySem.W.Frag} (h : cmB x m K = true) : ClX.CMet K (ga K x) (.type "type") m (cmP K x m) (cmG K x m) := by
  unfold cmB at h
  obtain ⟨h1, h⟩ := ba h
  obtain ⟨h2, h3⟩ := ba h
  refine ⟨?_, ?_, h3⟩
  · have e : ∃ p, PySem.W.findCls K (.ref (ga K x)) (.type "type") m = some (.get (.builtin "classmethod.__get__") (.ref p) .none (.ref (ga K x))) ∧ cmP K x m = p := by
      unfold cmP
      split at h1
      · rename_i s p c q
        obtain ⟨a1, a2⟩ := ba h1
        have a1 := of_decide_eq_true a1
        have a2 := of_decide_eq_true a2
        subst a1 a2
        exact ⟨p, q, by rw [q]⟩
      · cases h1
    obtain ⟨p, e1, e2⟩ := e
    rw [e2]
    exact e1
  · unfold cmG
    split at h2
    · rename_i g l q
      exact ⟨l, by rw [q]⟩
    · cases h2
def crB (x : PySem.Str) (K : PySem.W.Frag) : Bool := PySem.W.readsIn K (ga K x) (.type "type") && eqO (PySem.W.specialIn K (.ref (ga K x)) "__getattribute__") (some (some (.builtin "type.__getattribute__")))
theorem cr_ok {x : PySem.Str} {K : PySem.W.Frag} (h : crB x K = true) : ClX.CRead K (ga K x) (.type "type") := by
  obtain ⟨h1, h2⟩ := ba h
  exact ⟨h1, eqO_ok h2⟩
def seeY (n : Nat) (fs : List (PySem.W.Frag → Bool)) (fn : List DfX) (g : Addr → Option Obj) : AlX := seeX fs fn (frG g (cStatics :: sysModules :: asD g n))
def hookY (n : Nat) (fs : List (PySem.W.Frag → Bool)) (fn : List DfX) : PySem.W.Hook where
  α := AlX
  obs := fun s => seeY n fs fn s.heap.get?
  val := fun _ => dueX fn
  says := fun _ h => ∃ K : PySem.W.Frag, K.In h ∧ SaysX fs fn K
  of := fun _ _ e => ⟨_, frG_in, e⟩
  keeps := fun _ _ _ ⟨K, hK, c⟩ k => ⟨K, PySem.W.Frag.In.keeps hK k, c⟩
theorem seeY_eq {n : Nat} {fs : List (PySem.W.Frag → Bool)} {fn : List DfX} {g : Addr → Option Obj} {s : Shared} (h : ∀ a, g a = s.heap.get? a) : seeY n fs fn g = (hookY n fs fn).obs s := by
  obtain rfl : g = s.heap.get? := funext h
  rfl
end Ca

set_option maxHeartbeats 4000000
namespace Q
open PySem PySem.Spec PyProof.Rows L2 He Ca
/-! facts of classes that the kernel reads -/
def isiB (x : PySem.Str) (K : PySem.W.Frag) : Bool :=
  eqO (PySem.W.findIn K (.ref (ga K x)) "__class__") (some (some (.builtin "object.__class__"))) && (eqO (PySem.W.specialIn K (.builtin "object.__class__") "__get__") (some (some (.builtin "getset_descriptor.__get__"))) &&
    (decide (PySem.W.takesIn K (.builtin "object.__class__") = some true) && (decide (PySem.W.mroIn K (ga K x) (.type "object") = some true) && decide (PySem.W.kitOne K (.ref (ga K x)) (.ref (ga K x)) = some true))))
def isC1B (x : PySem.Str) (K : PySem.W.Frag) : Bool :=
  eqO (PySem.W.findIn K (.ref (ga K x)) "__class__") (some (some (.builtin "object.__class__"))) && (eqO (PySem.W.specialIn K (.builtin "object.__class__") "__get__") (some (some (.builtin "getset_descriptor.__get__"))) &&
    (decide (PySem.W.takesIn K (.builtin "object.__class__") = some true) && (decide (PySem.W.mroIn K (ga K x) (.type "object") = some true) && decide (PySem.W.kitOne K (.ref (ga K x)) (.ref (ga K x)) = some true))))
def callOB (x : PySem.Str) (K : PySem.W.Frag) : Bool :=
  eqO (PySem.W.findIn K (.ref (ga K x)) "__call__") (some (some (.ref (ma K (ga K x) "__call__")))) && (PySem.W.isFn K (.ref (ma K (ga K x) "__call__")) && PySem.W.fnIn K (ma K (ga K x) "__call__"))
def tyL : List String := ["NoneType", "bool", "int", "str", "list", "tuple", "dict"]
def cmpB (x : PySem.Str) (K : PySem.W.Frag) : Bool := eqO (PySem.W.findIn K (.ref (ga K x)) "__eq__") (some (some (.ref (ma K (ga K x) "__eq__")))) && (PySem.W.isFn K (.ref (ma K (ga K x) "__eq__")) && (eqO (PySem.W.findIn K (.ref (ga K x)) "__ne__") (some (some (.builtin "object.__ne__"))) &&
  (decide (PySem.W.mroIn K (ga K x) (.type "object") = some true) && tyL.all fun T => decide (PySem.W.subIn K (.type T) (.ref (ga K x)) = some false))))
def isKB (x : PySem.Str) (K : PySem.W.Frag) : Bool := isC1B x K && (tyL.all (fun T => decide (PySem.W.kitOne K (.type T) (.ref (ga K x)) = some false)) && tyL.all fun T => decide (PySem.W.kitOne K (.ref (ga K x)) (.type T) = some false))
def lenB (x : PySem.Str) (K : PySem.W.Frag) : Bool := eqO (PySem.W.findIn K (.ref (ga K x)) "__len__") (some (some (.ref (ma K (ga K x) "__len__")))) && PySem.W.isFn K (.ref (ma K (ga K x) "__len__"))
def opB (x : PySem.Str) (op : Operator) (K : PySem.W.Frag) : Bool :=
  PySem.W.selfFirst K (ga K x) && (eqO (PySem.W.findIn K (.ref (ga K x)) (PySem.dunder op.info.2)) (some (some (.ref (ma K (ga K x) (PySem.dunder op.info.2))))) && (PySem.W.isFn K (.ref (ma K (ga K x) (PySem.dunder op.info.2))) && (eqO (PySem.W.findIn K (.ref (ga K x)) (PySem.dunderR op.info.2)) (some none) &&
    tyL.all fun T => (PySem.W.findIn K (.type T) (PySem.dunder op.info.2)).isSome && ((PySem.W.findIn K (.type T) (PySem.dunderR op.info.2)).isSome && decide (PySem.W.subIn K (.type T) (.ref (ga K x)) = some false)))))
end Q

set_option maxHeartbeats 0
namespace Q
open PySem PySem.Spec PyProof.Rows L2 Ca He
def fs1 : List (PySem.W.Frag → Bool) := [(fun K => (He.Fa.free "isinstance").ok K), (fun K => (He.Fa.free "int").ok K), (fun K => (He.Fa.free "bool").ok K), (fun K => (He.Fa.free "str").ok K), (fun K => (He.Fa.free "tuple").ok K), (fun K => (He.Fa.free "list").ok K), (fun K => (He.Fa.free "len").ok K), (fun K => (He.Fa.free "all").ok K), (fun K => (He.Fa.free "sorted").ok K), (fun K => (He.Fa.free "repr").ok K), (fun K => (He.Fa.free "max").ok K), (fun K => (He.Fa.free "min").ok K), (fun K => (He.Fa.free "range").ok K), (fun K => (He.Fa.free "enumerate").ok K), (fun K => (He.Fa.free "sum").ok K), (fun K => (He.Fa.glo "is_number").ok K), (fun K => (He.Fa.glo "is_triple").ok K), (fun K => (He.Fa.glo "are_atoms").ok K), (fun K => (He.Fa.glo "variables_of").ok K), (fun K => (He.Fa.glo "text_of_atoms").ok K)]
def fs2 : List (PySem.W.Frag → Bool) := [(fun K => (He.Fa.glo "number_of_word").ok K), (fun K => (He.Fa.glo "atom_of_word").ok K), (fun K => (He.Fa.glo "is_key").ok K), (fun K => (He.Fa.glo "is_row").ok K), (fun K => (He.Fa.glo "are_rows").ok K), (fun K => (He.Fa.glo "text_of_rows").ok K), (fun K => (He.Fa.glo "row_of_line").ok K), (fun K => (He.Fa.glo "KINDS").ok K), (fun K => (He.Fa.glo "NoAtoms").ok K), (fun K => (He.Fa.glo "Question").ok K), (fun K => (He.Fa.glo "NoRows").ok K), (fun K => (He.Fa.glo "Table").ok K), (fun K => He.tupB K "KINDS" [.str "A", .str "B", .str "C"]), (fun K => (K.lookup sysModules).isSome), (fun K => (He.Fa.int "MOST_ATOMS" 4).ok K), (fun K => (He.Fa.int "MOST_VARIABLE" 9).ok K), (fun K => (He.Fa.exc "NoAtoms").ok K), (fun K => (He.Fa.cls "Question").ok K), (fun K => (He.Fa.noat "Question" "given").ok K), (fun K => (He.Fa.noat "Question" "ordered").ok K)]
def fs3 : List (PySem.W.Frag → Bool) := [(fun K => (He.Fa.noat "Question" "used").ok K), (fun K => (He.Fa.exc "NoRows").ok K), (fun K => (He.Fa.cls "Table").ok K), (fun K => (He.Fa.noat "Table" "kept").ok K), (fun K => (He.Fa.mkr "Question").ok K), (fun K => (He.Fa.mkr "Table").ok K), (fun K => (He.Fa.int "LONGEST_NUMBER" 5).ok K), (fun K => crB "Question" K), (fun K => cmB "Question" "read" K), (fun K => (He.Fa.int "MOST_VALUE" 99).ok K), (fun K => (He.Fa.int "MOST_OFTEN" 10000).ok K), (fun K => (He.Fa.int "MOST_ROWS" 12).ok K), (fun K => crB "Table" K), (fun K => cmB "Table" "read" K), (fun K => propB "Table" "rows" K), (fun K => propB "Question" "atoms" K), (fun K => (He.Fa.glo "agrees").ok K), (fun K => (He.Fa.glo "choices").ok K), (fun K => (He.Fa.glo "count_of").ok K), (fun K => (He.Fa.glo "check_table").ok K)]
def fs4 : List (PySem.W.Frag → Bool) := [(fun K => isC1B "Table" K), (fun K => callOB "Question" K), (fun K => (He.Fa.glo "check_question").ok K), (fun K => (He.Fa.glo "way_of").ok K), (fun K => (He.Fa.glo "sendings").ok K), (fun K => (He.Fa.glo "all_coverings").ok K), (fun K => isiB "Question" K), (fun K => propB "Question" "variables" K), (fun K => (He.Fa.glo "_law_cell").ok K), (fun K => (He.Fa.glo "_law_source").ok K), (fun K => (He.Fa.glo "_law_draw").ok K), (fun K => (He.Fa.glo "_law_choose").ok K), (fun K => (He.Fa.glo "_law_is_equal").ok K), (fun K => (He.Fa.glo "law").ok K), (fun K => (He.Fa.glo "_law_some").ok K), (fun K => (He.Fa.glo "_law_words").ok K), (fun K => (He.Fa.glo "_law_question").ok K), (fun K => (He.Fa.glo "_law_rows").ok K), (fun K => (He.Fa.glo "_law_table").ok K), (fun K => (He.Fa.glo "_law_names").ok K)]
def fs5 : List (PySem.W.Frag → Bool) := [(fun K => (He.Fa.glo "_law_near").ok K), (fun K => (He.Fa.glo "is_tuple_of_variables").ok K), (fun K => (He.Fa.glo "shows_covering").ok K), (fun K => (He.Fa.glo "covers").ok K), (fun K => (He.Fa.glo "coverings").ok K), (fun K => (He.Fa.glo "_law_behind").ok K), (fun K => (He.Fa.glo "_law_counts").ok K), (fun K => (He.Fa.glo "_law_is_right").ok K)]
def fs : List (PySem.W.Frag → Bool) := fs1 ++ fs2 ++ fs3 ++ fs4 ++ fs5
def df_num : DfX := ⟨fun K => He.ga K "is_number", "is_number", "is_number", top 4⟩
def df_tri : DfX := ⟨fun K => He.ga K "is_triple", "is_triple", "is_triple", top 5⟩
def df_are : DfX := ⟨fun K => He.ga K "are_atoms", "are_atoms", "are_atoms", top 37⟩
def df_vars : DfX := ⟨fun K => He.ga K "variables_of", "variables_of", "variables_of", top 40⟩
def df_text : DfX := ⟨fun K => He.ga K "text_of_atoms", "text_of_atoms", "text_of_atoms", top 38⟩
def df_now : DfX := ⟨fun K => He.ga K "number_of_word", "number_of_word", "number_of_word", top 6⟩
def df_aow : DfX := ⟨fun K => He.ga K "atom_of_word", "atom_of_word", "atom_of_word", top 39⟩
def df_init : DfX := ⟨fun K => He.ma K (He.ga K "Question") "__init__", "__init__", "Question.__init__", inClass (top 41) 0⟩
def df_read : DfX := ⟨fun K => cmG K "Question" "read", "read", "Question.read", inClass (top 41) 12⟩
def df_qatoms : DfX := ⟨fun K => propG K (He.ma K (He.ga K "Question") "atoms"), "atoms", "Question.atoms", inClass (top 41) 1⟩
def df_key : DfX := ⟨fun K => He.ga K "is_key", "is_key", "is_key", top 22⟩
def df_row : DfX := ⟨fun K => He.ga K "is_row", "is_row", "is_row", top 23⟩
def df_arr : DfX := ⟨fun K => He.ga K "are_rows", "are_rows", "are_rows", top 24⟩
def df_txr : DfX := ⟨fun K => He.ga K "text_of_rows", "text_of_rows", "text_of_rows", top 25⟩
def df_rol : DfX := ⟨fun K => He.ga K "row_of_line", "row_of_line", "row_of_line", top 26⟩
def df_tinit : DfX := ⟨fun K => He.ma K (He.ga K "Table") "__init__", "__init__", "Table.__init__", inClass (top 31) 0⟩
def df_tread : DfX := ⟨fun K => cmG K "Table" "read", "read", "Table.read", inClass (top 31) 12⟩
def df_trows : DfX := ⟨fun K => propG K (He.ma K (He.ga K "Table") "rows"), "rows", "Table.rows", inClass (top 31) 1⟩
def df_ag : DfX := ⟨fun K => He.ga K "agrees", "agrees", "agrees", top 44⟩
def df_chs : DfX := ⟨fun K => He.ga K "choices", "choices", "choices", top 45⟩
def df_cnt : DfX := ⟨fun K => He.ga K "count_of", "count_of", "count_of", top 46⟩
def df_ck : DfX := ⟨fun K => He.ga K "check_table", "check_table", "check_table", top 32⟩
def df_qcall : DfX := ⟨fun K => He.ma K (He.ga K "Question") "__call__", "__call__", "Question.__call__", inClass (top 41) 10⟩
def df_qvars : DfX := ⟨fun K => propG K (He.ma K (He.ga K "Question") "variables"), "variables", "Question.variables", inClass (top 41) 2⟩
def df_cq : DfX := ⟨fun K => He.ga K "check_question", "check_question", "check_question", top 42⟩
def df_way : DfX := ⟨fun K => He.ga K "way_of", "way_of", "way_of", top 47⟩
def df_snd : DfX := ⟨fun K => He.ga K "sendings", "sendings", "sendings", top 49⟩
def df_acv : DfX := ⟨fun K => He.ga K "all_coverings", "all_coverings", "all_coverings", top 50⟩
def df_cell : DfX := ⟨fun K => He.ga K "_law_cell", "_law_cell", "_law_cell", top 56⟩
def df_source : DfX := ⟨fun K => He.ga K "_law_source", "_law_source", "_law_source", top 57⟩
def df_draw : DfX := ⟨fun K => He.ga K "_law_draw", "_law_draw", "_law_draw", top 58⟩
def df_choose : DfX := ⟨fun K => He.ga K "_law_choose", "_law_choose", "_law_choose", top 59⟩
def df_eq : DfX := ⟨fun K => He.ga K "_law_is_equal", "_law_is_equal", "_law_is_equal", top 60⟩
def df_law : DfX := ⟨fun K => He.ga K "law", "law", "law", top 71⟩
def df_some : DfX := ⟨fun K => He.ga K "_law_some", "_law_some", "_law_some", top 61⟩
def df_lwords : DfX := ⟨fun K => He.ga K "_law_words", "_law_words", "_law_words", top 62⟩
def df_lq : DfX := ⟨fun K => He.ga K "_law_question", "_law_question", "_law_question", top 63⟩
def df_lrows : DfX := ⟨fun K => He.ga K "_law_rows", "_law_rows", "_law_rows", top 65⟩
def df_ltab : DfX := ⟨fun K => He.ga K "_law_table", "_law_table", "_law_table", top 66⟩
def df_lnames : DfX := ⟨fun K => He.ga K "_law_names", "_law_names", "_law_names", top 64⟩
def df_nrs : DfX := ⟨fun K => He.ga K "_law_near", "_law_near", "_law_near", top 67⟩
def df_itv : DfX := ⟨fun K => He.ga K "is_tuple_of_variables", "is_tuple_of_variables", "is_tuple_of_variables", top 51⟩
def df_scv : DfX := ⟨fun K => He.ga K "shows_covering", "shows_covering", "shows_covering", top 54⟩
def df_cvr : DfX := ⟨fun K => He.ga K "covers", "covers", "covers", top 53⟩
def df_gcov : DfX := ⟨fun K => He.ga K "coverings", "coverings", "coverings", top 52⟩
def df_bhd : DfX := ⟨fun K => He.ga K "_law_behind", "_law_behind", "_law_behind", top 68⟩
def df_cts : DfX := ⟨fun K => He.ga K "_law_counts", "_law_counts", "_law_counts", top 69⟩
def df_rit : DfX := ⟨fun K => He.ga K "_law_is_right", "_law_is_right", "_law_is_right", top 70⟩
def fn : List DfX := [df_num, df_tri, df_are, df_vars, df_text, df_now, df_aow, df_init, df_read, df_qatoms, df_key, df_row, df_arr, df_txr, df_rol, df_tinit, df_tread, df_trows, df_ag, df_chs, df_cnt, df_ck, df_qcall, df_qvars, df_cq, df_way, df_snd, df_acv, df_cell, df_source, df_draw, df_choose, df_eq, df_law, df_some, df_lwords, df_lq, df_lrows, df_ltab, df_lnames, df_nrs, df_itv, df_scv, df_cvr, df_gcov, df_bhd, df_cts, df_rit]
def nm1 : List PySem.Str := ["_wall", "KINDS", "LONGEST_NUMBER", "is_number", "is_triple", "number_of_word", "CountError", "NoRows", "NoKey", "NoText", "NoTable", "NoAtoms", "NoQuestion", "TooMuch", "MOST_ROWS", "MOST_VALUE", "MOST_OFTEN", "MOST_DIGIT", "DIGIT_BASE", "is_key", "is_row", "are_rows", "text_of_rows", "row_of_line", "greatest_value"]
def nm2 : List PySem.Str := ["summed_rows", "shifted_rows", "paired_rows", "Table", "check_table", "table_within_limits", "MOST_ATOMS", "MOST_VARIABLE", "are_atoms", "text_of_atoms", "atom_of_word", "variables_of", "Question", "check_question", "question_within_limits", "agrees", "choices", "count_of", "way_of", "sendings", "all_coverings", "is_tuple_of_variables", "coverings", "covers", "shows_covering"]
def nm3 : List PySem.Str := ["_law_cell", "_law_source", "_law_draw", "_law_choose", "_law_is_equal", "_law_some", "_law_words", "_law_question", "_law_names", "_law_rows", "_law_table", "_law_near", "_law_behind", "_law_counts", "_law_is_right"]
def nmL : List PySem.Str := nm1 ++ nm2 ++ nm3
abbrev R : PySem.W.OpenRow := PySem.W.OpenLaw.row PySem.Challenge.rw_countalike_k68_whole_coverings_never_cou
abbrev hk : PySem.W.Hook := hookY 7 fs fn
def ob (s : PySem.W.SharedT) : AlX := seeY 7 fs fn (HandSHeadRun.getT s)
theorem ob_eq (s : PySem.W.SharedT) : ob s = hk.obs s.abs := seeY_eq (HandSHeadRun.getT_eq s)
theorem run (w : World) : HandSHeadRun.RunEq R (PySem.W.view R.prog [71]) hk ob 30000 nmL w := by
  intro os
  kernel_rfl
end Q

set_option maxHeartbeats 4000000
/-! a set comprehension of two clauses whose elements are ints -/
namespace Ca
open PySem PySem.Spec PyProof.Rows L2

abbrev sc2 (elt a0 b0 a1 b1 : Expr) (c0 c1 : List Expr) (scope : Scope) (pos : Pos) : Expr :=
  .SetComp elt [⟨a0, b0, c0, 0⟩, ⟨a1, b1, c1, 0⟩] scope pos
section
variable {prog : Program} {w : World} {A : Around} {R : Result → Shared → Prop} {s : Shared} {elt a0 b0 a1 b1 : Expr} {c0 c1 : List Expr}
  {scope : Scope} {pos : Pos} {it acc : Value} {env : Env}
abbrev Tst (M : Model) (A : Around) (env : Env) (cs : List Expr) (Q : Bool → Shared → Prop) (E : Value → Shared → Prop) (s : Shared) : Prop :=
  wpAny M A (forIn cs true fun c r => if r = true then do
      let ok ← isTrue c env (eval c env)
      pure (ForInStep.yield ok) else pure (ForInStep.yield r)) Q E s
theorem turn_outer : compTurn (sc2 elt a0 b0 a1 b1 c0 c1 scope pos) 0 it acc env = (do
      standAt b0.pos
      match ← pyNext it with
      | none => pure (.done .next)
      | some u =>
        letOwnedTupleGo a0 it u
        assign a0 env u
        let mut ok := true
        for c in c0 do
          if ok then ok ← isTrue c env (eval c env)
        if ok then
          let y ← eval b1 env
          standAt b1.pos
          let y ← foldedSetIterable b1 env y
          let _ ← runOwn (.compStart (sc2 elt a0 b0 a1 b1 c0 c1 scope pos) 1 (← holding [y] (pyIter y)) acc env) env
        again (.compLoop (sc2 elt a0 b0 a1 b1 c0 c1 scope pos) 0 it acc env)) := by rfl
theorem turn_inner : compTurn (sc2 elt a0 b0 a1 b1 c0 c1 scope pos) 1 it acc env = (do
      standAt b1.pos
      match ← pyNext it with
      | none => pure (.done .next)
      | some u =>
        letOwnedTupleGo a1 it u
        assign a1 env u
        let mut ok := true
        for c in c1 do
          if ok then ok ← isTrue c env (eval c env)
        if ok then
          (do let y ← eval elt env; standAt elt.pos; let _ ← call (.builtin "set.add") [acc, y])
        again (.compLoop (sc2 elt a0 b0 a1 b1 c0 c1 scope pos) 1 it acc env)) := by rfl
abbrev Nt (prog : Program) (w : World) (A : Around) (env : Env) (R : Result → Shared → Prop) : Value → Shared → Prop :=
  notedBy (model prog w) A env fun x s' => R (.error x) s'
theorem loop_outer (fs : ∀ x, foldedSetIterable b1 env x = pure x) (J : Nat → Shared → Prop)
    (turn : ∀ n s, J n s → wpAny (model prog w) A (pyNext it) (fun r s₁ => match r with
      | none => R (.ok .next) s₁
      | some u => wpAny (model prog w) A (letOwnedTupleGo a0 it u) (fun _ s₂ => wpAny (model prog w) A (assign a0 env u) (fun _ s₃ =>
          Tst (model prog w) A env c0 (fun ok s₄ => if ok = true then wpAny (model prog w) A (eval b1 env) (fun x s₅ =>
            wpAny (model prog w) A (pyIter x) (fun z s₆ => codeAny (model prog w) A (.compStart (sc2 elt a0 b0 a1 b1 c0 c1 scope pos) 1 z acc env)
              (fun r s' => match r with
                | .ok _ => ∃ m, m < n ∧ J m s'
                | .error _ => False) s₆) (Nt prog w A env R) s₅) (Nt prog w A env R) s₄
            else ∃ m, m < n ∧ J m s₄) (Nt prog w A env R) s₃) (Nt prog w A env R) s₂) (Nt prog w A env R) s₁) (Nt prog w A env R) s)
    (n : Nat) (h : J n s) : codeAny (model prog w) A (.compLoop (sc2 elt a0 b0 a1 b1 c0 c1 scope pos) 0 it acc env) R s := by
  refine codeAny_loop rfl J (fun n s hJ => ?_) n h
  show wpAny _ A ((compTurn (sc2 elt a0 b0 a1 b1 c0 c1 scope pos) 0 it acc env).onRaise (fun x => do noteFrame x env; theTreesLotGoes x)) _ _ s
  refine wpAny_noted ?_
  rw [turn_outer]
  refine wpAny_bind (wpAny_standAt (wpAny_bind (wpAny_mono (turn n s hJ) (fun r s₁ k₁ => ?_) fun _ _ z => z)))
  cases r with
  | none => exact wpAny_pure k₁
  | some u =>
    refine wpAny_bind (wpAny_mono k₁ (fun _ s₂ k₂ => ?_) fun _ _ z => z)
    refine wpAny_bind (wpAny_mono k₂ (fun _ s₃ k₃ => ?_) fun _ _ z => z)
    refine wpAny_bind (wpAny_mono k₃ (fun ok s₄ k₄ => ?_) fun _ _ z => z)
    cases ok with
    | false => exact wpAny_pure ⟨rfl, k₄⟩
    | true =>
      refine wpAny_bind (wpAny_mono k₄ (fun x s₅ k₅ => ?_) fun _ _ z => z)
      refine wpAny_bind (wpAny_standAt (wpAny_bind (wpAny_of_eq (fs x) (wpAny_bind (wpAny_holding (wpAny_mono k₅ (fun z s₆ k₆ => ?_) fun _ _ z => z))))))
      refine wpAny_bind (wpAny_runOwn ?_)
      rw [Around.mark_none]
      refine codeAny_mono k₆ fun r s' hr => ?_
      cases r with
      | error e => exact hr.elim
      | ok f => first | exact wpAny_pure ⟨rfl, hr⟩ | exact wpAny_bind (wpAny_pure (wpAny_pure ⟨rfl, hr⟩))
theorem loop_inner (J : Nat → Shared → Prop)
    (turn : ∀ n s, J n s → wpAny (model prog w) A (pyNext it) (fun r s₁ => match r with
      | none => R (.ok .next) s₁
      | some u => wpAny (model prog w) A (letOwnedTupleGo a1 it u) (fun _ s₂ => wpAny (model prog w) A (assign a1 env u) (fun _ s₃ =>
          Tst (model prog w) A env c1 (fun ok s₄ => if ok = true then wpAny (model prog w) A (eval elt env) (fun x s₅ =>
              wpAny (model prog w) A (call (.builtin "set.add") [acc, x]) (fun _ s₆ => ∃ m, m < n ∧ J m s₆) (Nt prog w A env R) s₅) (Nt prog w A env R) s₄
            else ∃ m, m < n ∧ J m s₄) (Nt prog w A env R) s₃) (Nt prog w A env R) s₂) (Nt prog w A env R) s₁) (Nt prog w A env R) s)
    (n : Nat) (h : J n s) : codeAny (model prog w) A (.compLoop (sc2 elt a0 b0 a1 b1 c0 c1 scope pos) 1 it acc env) R s := by
  refine codeAny_loop rfl J (fun n s hJ => ?_) n h
  show wpAny _ A ((compTurn (sc2 elt a0 b0 a1 b1 c0 c1 scope pos) 1 it acc env).onRaise (fun x => do noteFrame x env; theTreesLotGoes x)) _ _ s
  refine wpAny_noted ?_
  rw [turn_inner]
  refine wpAny_bind (wpAny_standAt (wpAny_bind (wpAny_mono (turn n s hJ) (fun r s₁ k₁ => ?_) fun _ _ z => z)))
  cases r with
  | none => exact wpAny_pure k₁
  | some u =>
    refine wpAny_bind (wpAny_mono k₁ (fun _ s₂ k₂ => ?_) fun _ _ z => z)
    refine wpAny_bind (wpAny_mono k₂ (fun _ s₃ k₃ => ?_) fun _ _ z => z)
    refine wpAny_bind (wpAny_mono k₃ (fun ok s₄ k₄ => ?_) fun _ _ z => z)
    cases ok with
    | false => exact wpAny_pure ⟨rfl, k₄⟩
    | true =>
      refine wpAny_bind (wpAny_bind (wpAny_mono k₄ (fun x s₅ k₅ => ?_) fun _ _ z => z))
      exact wpAny_bind (wpAny_standAt (wpAny_bind (wpAny_mono k₅ (fun _ s₆ k₆ => wpAny_pure (wpAny_pure ⟨rfl, k₆⟩)) fun _ _ z => z)))
theorem start_inner (h0 : codeAny (model prog w) A (.compLoop (sc2 elt a0 b0 a1 b1 c0 c1 scope pos) 1 it acc env) R s)
    (h : wpAny (model prog w) A (pyIter it) (fun z s' => codeAny (model prog w) A (.compLoop (sc2 elt a0 b0 a1 b1 c0 c1 scope pos) 1 z acc env) R s') (Nt prog w A env R) s) :
    codeAny (model prog w) A (.compStart (sc2 elt a0 b0 a1 b1 c0 c1 scope pos) 1 it acc env) R s := by
  refine codeAny_of_tree ?_
  show wpAny _ _ ((compStart (sc2 elt a0 b0 a1 b1 c0 c1 scope pos) 1 it acc env).onRaise (fun x => do noteFrame x env; standAt theWindowsPlace)) _ _ s
  refine wpAny_notedAt ?_
  unfold compStart
  show wpAny _ _ (ask >>= _) _ _ s
  refine wpAny_bind (wpAny_askSetting (wpAny_ite ?_))
  split
  · first | exact wpAny_bind (wpAny_pure (wpAny_pure (And.intro rfl h0))) | exact wpAny_pure (And.intro rfl h0)
  · refine wpAny_bind (wpAny_rule ?_)
    show wpAny _ _ (standAt b1.pos >>= _) _ _ s
    exact wpAny_bind (wpAny_standAt (wpAny_bind (wpAny_mono h (fun z s' k => wpAny_pure (And.intro rfl k)) fun _ _ x => x)))
end
end Ca

set_option maxHeartbeats 4000000
namespace Ca
open PySem PySem.Spec PyProof.Rows L2
/-- one more int in a set -/
def more (S : Int → Bool) (k : Int) : Int → Bool := fun j => S j || decide (j = k)
def cntS (S : Int → Bool) (n : Nat) (k : Int) : Nat := if S k = true then n else n + 1
section
variable {X : Cx}
/-- {elt for .. in .. for .. in ..}: D the new set of ints; vs all names of the block, us those of the second target -/
def tSc2 (w : World) (wi : TI) (g : TG) (tt : TT) (wj : TI) (g1 : TG) (tt1 : TT) (te : TE) (vs us : List Nat) : TE := fun σ H Q =>
  wi σ H fun J H1 => ∀ D, H1 D = none → ∃ W : Nat → Nat → Hp → Prop, (∃ m, W 0 m (upd H1 D (SetO w D (fun _ => false) 0))) ∧ ∀ i m H, W i m H →
    (J.stop i H ∧ Q (.ref D) H) ∨ (J.go i H ∧ ∃ Nx : Hp → Prop, (∀ H', Nx H' → ∃ m', m' < m ∧ W (i + 1) m' H') ∧
      ∀ x H', J.yld i H x H' → g x (wipe σ vs) H' fun σ2 H2 => wipe σ2 vs = wipe σ vs ∧ tt σ2 H2 fun b H3 =>
        if b = true then wj σ2 H3 fun J1 H4 => ∃ W1 : Nat → Nat → Hp → Prop, (∃ m, W1 0 m H4) ∧ ∀ j k H, W1 j k H →
          (J1.stop j H ∧ Nx H) ∨ (J1.go j H ∧ ∃ Nx1 : Hp → Prop, (∀ H', Nx1 H' → ∃ k', k' < k ∧ W1 (j + 1) k' H') ∧
            ∀ x H', J1.yld j H x H' → g1 x (wipe σ2 us) H' fun σ3 H5 => wipe σ3 us = wipe σ2 us ∧ tt1 σ3 H5 fun b H6 =>
              if b = true then te σ3 H6 fun y H7 => ∃ (k : Int) (S : Int → Bool) (n : Nat), y = .int k ∧ H7 D = some (SetO w D S n) ∧ n + 1 < scanBound ∧
                Nx1 (upd H7 D (SetO w D (more S k) (cntS S n k))) else Nx1 H6)
        else Nx H3)
/-- set.add of an int, as a raw call -/
theorem add_int {pins : List (Addr × Obj)} {σ : L2.St} {H : Hp} {s : Shared} {E : Value → Shared → Prop} {D : Addr} {S : Int → Bool} {n : Nat} {k : Int} {u : Value}
    {Q : Value → Shared → Prop} (I : Inv X pins σ H s) (hD : H D = some (SetO X.w D S n)) (room : n + 1 < scanBound) (ru : RelV (.int k) u)
    (h : ∀ s', Inv X pins σ (upd H D (SetO X.w D (more S k) (cntS S n k))) s' → Q .none s') : wpAny (model X.prog X.w) X.A (call (.builtin "set.add") [.ref D, u]) Q E s := by
  obtain ⟨tk, rfl⟩ := ru
  refine setR_add (setO_get I hD) room fun h' sb new => ?_
  have ex : ∃ u, h'.get? D = some u := by
    have ⟨o, _, _, _, ho, _⟩ := new
    exact ⟨o, ho⟩
  refine h _ (I.write (e := D) (t' := s.toks + 1) (by rw [hD]; trivial) (.inl rfl) (fun b u hb hu => ?_) ex (setO_new new))
  exact (sb.2 b hb).trans hu
abbrev eSet (w : World) : Obj := { cls := .type "set", dict := none, data := .set #[] 0 (.fresh 0 0 (!w.params.followText "set-order")) }
theorem pe_sc2 {elt a0 b0 a1 b1 : Expr} {c0 c1 : List Expr} {scope : Scope} {own : List (PySem.Str × Nat)} {us : List Nat} {pos : Pos} {wi wj : TI} {g g1 : TG} {tt tt1 : TT} {te : TE}
    (hc : X.calm = true) (hN : X.N.Nodup) (hi : PI X a0 b0 wi) (ok : BlkOk X.N X.env.scope scope own) (hv : ∀ i ∈ us, i ∈ own.map (·.2))
    (hg : ∀ (s : Shared) (H : Hp) (C : Addr) (cl : List (PySem.Str × Addr)) (fq : List Addr), PG (X.blk s H scope (compEnvC scope cl C X.env) fq) a0 g) (ht : ∀ (s : Shared) (H : Hp) (C : Addr) (cl : List (PySem.Str × Addr)) (fq : List Addr), PTs (X.blk s H scope (compEnvC scope cl C X.env) fq) c0 tt) (hj : ∀ (s : Shared) (H : Hp) (C : Addr) (cl : List (PySem.Str × Addr)) (fq : List Addr), PI (X.blk s H scope (compEnvC scope cl C X.env) fq) a1 b1 wj) (hg1 : ∀ (s : Shared) (H : Hp) (C : Addr) (cl : List (PySem.Str × Addr)) (fq : List Addr), PG (X.blk s H scope (compEnvC scope cl C X.env) fq) a1 g1)
    (ht1 : ∀ (s : Shared) (H : Hp) (C : Addr) (cl : List (PySem.Str × Addr)) (fq : List Addr), PTs (X.blk s H scope (compEnvC scope cl C X.env) fq) c1 tt1) (he : ∀ (s : Shared) (H : Hp) (C : Addr) (cl : List (PySem.Str × Addr)) (fq : List Addr), PE (X.blk s H scope (compEnvC scope cl C X.env) fq) elt te) (f0 : ∀ x, foldedSetIterable b0 X.env x = pure x := by intro _; rfl)
    (f1 : ∀ env x, foldedSetIterable b1 env x = pure x := by intro _ _; rfl) :
    PE X (sc2 elt a0 b0 a1 b1 c0 c1 scope pos) (tSc2 X.w wi g tt wj g1 tt1 te (own.map (·.2)) us) := by
  refine ⟨fun pins s σ H Q I h => ?_⟩
  rw [PpSet.eval_SetComp]
  have free : ∀ y ∈ scope.names, y.2 = .free → ∃ c, X.env.cells.lookup y.1 = some c := fun y hy e =>
    (ok.free y hy e).elim (fun k => I.ok.has _ (.inl k)) (fun k => I.ok.has _ (.inr k))
  refine wpAny_comprehension_free (use := none) rfl f0 (closure_ok free) ok.kind (fun y hy e => by rw [ok.uniq y hy, e]) ?_
  refine thn (hi.run pins s σ H _ I h) fun xv s1 hx => thn hx fun itv s2 h2 => ?_
  obtain ⟨it, fp, tn, J, H2, rfl, I2, T, st2, fpo, q⟩ := h2
  refine PpSet.newSet_ok (newEnv_comp ?_)
  generalize hD : s2.heap.objs.size = D
  obtain ⟨W, ⟨m0, w0⟩, turn⟩ := q D (I2.hok.fresh (Nat.le_of_eq hD))
  generalize hs3 : ({ s2 with heap := s2.heap.push (eSet X.w) } : Shared) = s3
  have e3 : s3.heap = s2.heap.push (eSet X.w) := by rw [← hs3]
  have I3 : Inv X pins σ (upd H2 D (SetO X.w D (fun _ => false) 0)) s3 := by
    subst hs3 hD
    exact I2.laid (t' := s2.toks) (fun b o e => Heap.get?_push_of_some _ e) (Nat.le_refl _) (setO_new (setR_fresh X.w))
  have low : ∀ b ∈ fp, b < s2.heap.objs.size := fun b hb =>
    let ⟨_, e, _⟩ := T.obj _ _ st2 b hb
    Heap.lt_size e
  have fpo3 : ∀ b ∈ fp, FpOk X pins (upd H2 D (SetO X.w D (fun _ => false) 0)) b ∧ b < s3.heap.objs.size := fun b hb => by
    have lt := low b hb
    refine ⟨⟨?_, (fpo b hb).2⟩, by rw [e3, Heap.size_push]; exact Nat.lt_succ_of_lt lt⟩
    rw [upd_ne (by subst hD; exact Nat.ne_of_lt lt)]
    exact (fpo b hb).1
  have st3 : tn 0 s3.heap := T.keep _ _ _ st2 fun b _ o e => by rw [e3]; exact Heap.get?_push_of_some _ e
  have I4 := block_start I3 ok hN fpo3
  generalize hcl : cellsFrom (s3.heap.objs.size + 1) scope.names (cloFrom X.env.cells scope.names []) = cl at I4 ⊢
  have qg := hg s3 (upd H2 D (SetO X.w D (fun _ => false) 0)) s3.heap.objs.size cl fp
  have qt := ht s3 (upd H2 D (SetO X.w D (fun _ => false) 0)) s3.heap.objs.size cl fp
  have qj := hj s3 (upd H2 D (SetO X.w D (fun _ => false) 0)) s3.heap.objs.size cl fp
  have qg1 := hg1 s3 (upd H2 D (SetO X.w D (fun _ => false) 0)) s3.heap.objs.size cl fp
  have qt1 := ht1 s3 (upd H2 D (SetO X.w D (fun _ => false) 0)) s3.heap.objs.size cl fp
  have qe := he s3 (upd H2 D (SetO X.w D (fun _ => false) 0)) s3.heap.objs.size cl fp
  have non3 : ∀ b ∈ fp, (upd H2 D (SetO X.w D (fun _ => false) 0)) b = none := fun b hb => (fpo3 b hb).1.1
  show codeAny _ _ (.compStart (sc2 elt a0 b0 a1 b1 c0 c1 scope pos) 0 (.ref it) (.ref D) (compEnvC scope cl s3.heap.objs.size X.env)) (compPost (model X.prog X.w) X.A X.xe none _ (.ref D) s3.heap.objs.size)
    { s3 with heap := pushCells (s3.heap.push { cls := .type "dict", data := .dict #[] }) scope.names }
  generalize hce : compEnvC scope cl s3.heap.objs.size X.env = ce at I4 qg qt qj qg1 qt1 qe ⊢
  have loc : ce.locals = s3.heap.objs.size := by subst hce; rfl
  generalize hH3 : upd H2 D (SetO X.w D (fun _ => false) 0) = H3 at I3 I4 qg qt qj qg1 qt1 qe w0 non3 fpo3
  generalize hs4 : ({ s3 with heap := pushCells (s3.heap.push { cls := .type "dict", data := .dict #[] }) scope.names } : Shared) = s4 at I4 ⊢
  have st4 : tn 0 s4.heap := T.keep _ _ _ st3 fun b _ o e => by
    subst hs4
    exact pushCells_keeps _ _ _ _ (Heap.get?_push_of_some _ e)
  let Y : Cx := X.blk s3 H3 scope ce fp
  have okFp : ∀ {σ' : L2.St} {H' : Hp} {s' : Shared}, Inv Y [] σ' H' s' → (∀ b ∈ fp, H' b = none) → ∀ b ∈ fp, FpOk Y [] H' b := fun {σ' H' s'} K hn b hb =>
    ⟨hn b hb, (K.ok.exf b hb).1, K.ok.exfs b hb, .inl hb, fun x c e => (K.ok.exf b hb).2 x c e,
      fun p hp => absurd (show p ∈ ([] : List (Addr × Obj)) ++ [] from hp) (by simp)⟩
  generalize hvs : own.map (·.2) = vs at turn hv I4
  have loop : codeAny (model X.prog X.w) X.A (.compLoop (sc2 elt a0 b0 a1 b1 c0 c1 scope pos) 0 (.ref it) (.ref D) ce)
      (compPost (model X.prog X.w) X.A X.xe none (EP X pins σ Q) (.ref D) s3.heap.objs.size) s4 := by
    refine loop_outer (f1 ce) (fun n s' => ∃ i H', Inv Y [] (wipe σ vs) H' s' ∧ tn i s'.heap ∧ (∀ b ∈ fp, H' b = none) ∧ W i n H') ?_ m0 ⟨0, H3, I4, st4, non3, w0⟩
    rintro n s5 ⟨i, H5, I5, st5, n5, w5⟩
    rcases turn i n H5 w5 with ⟨stop, fin⟩ | ⟨go, Nx, hNx, step⟩
    · refine thnF (T.done Y rfl rfl rfl hc i [] s5 _ H5 (fun _ _ => False) I5 (okFp I5 n5) st5 stop) fun r s6 ⟨hr, I6⟩ => ?_
      subst hr
      have I7 : Inv X pins σ H5 s6 := I3.call' (ch := fp) I6.os I6.base I6.hok I6.bare fun b hb =>
        ⟨(fpo3 b hb).1.2.2.2.1, (fpo3 b hb).1.2.1, (fpo3 b hb).1.2.2.2.2.1, (fpo3 b hb).1.2.2.2.2.2⟩
      have nC : H5 s3.heap.objs.size = none := by
        have z : H5 ce.locals = none := I6.free
        rwa [loc] at z
      obtain ⟨m, hm, _⟩ := I6.loc
      have hm : s6.heap.Ns ce.locals m := hm
      rw [loc] at hm
      obtain ⟨z0, z1, z2, z3, z4, z5⟩ := I3.fpOk (Nat.le_refl _) nC
      refine ⟨m, hm, fun h'' sb => ⟨.ref D, H5, I7.turned (t' := s6.toks) (fun b o hb e => ?_) z0 z1 z3 z4 z5, rfl, fin⟩⟩
      exact (sb.2 b hb).trans e
    · refine thnF (T.item Y rfl rfl rfl hc i [] s5 _ H5 (fun _ _ => False) I5 (okFp I5 n5) st5 go) fun r s6 ⟨u, hr, h6⟩ => ?_
      subst hr
      refine thnF h6 fun _ s7 ⟨x, H7, I7, r7, y7, st7, n7⟩ => ?_
      refine thnF (qg.run _ s7 _ H7 x u _ (I7.pinned (okFp I7 n7) (T.obj _ _ st7)) r7 (step x H7 y7)) fun _ s8 ⟨σ8, H8, I8, w8, q8⟩ => ?_
      refine thnF (qt.run _ s8 σ8 H8 _ I8 q8) fun b s9 ⟨H9, I9, q9⟩ => ?_
      have close : ∀ {τ : L2.St} {s' : Shared} {H' : Hp}, Inv Y ([] ++ pinsAt fp s7.heap) τ H' s' → (wipe σ vs).length = τ.length →
          (∀ (j : Nat) v, (wipe σ vs)[j]? = some (some v) → τ[j]? = some (some v)) → Nx H' →
          ∃ m, m < n ∧ ∃ i H', Inv Y [] (wipe σ vs) H' s' ∧ tn i s'.heap ∧ (∀ b ∈ fp, H' b = none) ∧ W i m H' := fun {τ s' H'} K hl hk nx => by
        obtain ⟨m', hm, w'⟩ := hNx H' nx
        have held : ∀ b ∈ fp, ∀ o, s7.heap.get? b = some o → s'.heap.get? b = some o ∧ H' b = none := fun b hb o e =>
          let z := K.pin (b, o) (List.mem_append_right _ (List.mem_append_right _ (mem_pinsAt hb e)))
          ⟨z.1, z.2.1⟩
        refine ⟨m', hm, i + 1, H', (K.unpinned (pins := [])).weak hl hk, T.keep _ _ _ st7 fun b hb o e => (held b hb o e).1, fun b hb => ?_, w'⟩
        obtain ⟨o, e, _⟩ := T.obj _ _ st7 b hb
        exact (held b hb o e).2
      have l8 : (wipe σ vs).length = σ8.length := by rw [← w8, wipe_length]
      have k8 : ∀ (j : Nat) v, (wipe σ vs)[j]? = some (some v) → σ8[j]? = some (some v) := fun j v e => by
        rw [← w8] at e
        exact (wipe_some e).1
      have k9 : ∀ (j : Nat) v, (wipe σ vs)[j]? = some (some v) → (wipe σ8 us)[j]? = some (some v) := fun j v e => by
        rw [← w8] at e
        obtain ⟨z1, z2⟩ := wipe_some e
        rw [wipe_out fun z => z2 (hv j z)]
        exact z1
      cases b with
      | false =>
        simp only [Bool.false_eq_true, if_false] at q9 ⊢
        exact close I9 l8 k8 q9
      | true =>
        simp only [if_true] at q9 ⊢
        refine thnF (qj.run _ s9 σ8 H9 _ I9 q9) fun xv s10 hx => thnF hx fun itv s11 h11 => ?_
        obtain ⟨it1, fq, tm, J1, H11, rfl, I11, T1, st11, fqo, W1, ⟨m1, w1⟩, turn1⟩ := h11
        have okFq : ∀ {H' : Hp}, (∀ b ∈ fq, H' b = none) → ∀ b ∈ fq, FpOk Y ([] ++ pinsAt fp s7.heap) H' b := fun hn b hb => ⟨hn b hb, (fqo b hb).2⟩
        have loop1 : codeAny (model X.prog X.w) X.A (.compLoop (sc2 elt a0 b0 a1 b1 c0 c1 scope pos) 1 (.ref it1) (.ref D) ce) (fun r s' => match r with
              | .ok _ => ∃ m, m < n ∧ ∃ i H', Inv Y [] (wipe σ vs) H' s' ∧ tn i s'.heap ∧ (∀ b ∈ fp, H' b = none) ∧ W i m H'
              | .error _ => False) s11 := by
          refine loop_inner (fun k s' => ∃ j H', Inv Y ([] ++ pinsAt fp s7.heap) (wipe σ8 us) H' s' ∧ tm j s'.heap ∧ (∀ b ∈ fq, H' b = none) ∧ W1 j k H') ?_ m1
            ⟨0, H11, I11.weak (wipe_length _ _) (fun j v e => (wipe_some e).1), st11, fun b hb => (fqo b hb).1, w1⟩
          rintro k s12 ⟨j, H12, I12, st12, n12, w12⟩
          rcases turn1 j k H12 w12 with ⟨stop1, nx1⟩ | ⟨go1, Nx1, hNx1, step1⟩
          · refine thnF (T1.done Y rfl rfl rfl hc j _ s12 (wipe σ8 us) H12 (fun _ _ => False) I12 (okFq n12) st12 stop1) fun r s13 ⟨hr, I13⟩ => ?_
            subst hr
            exact close I13 (l8.trans (wipe_length σ8 us).symm) k9 nx1
          · refine thnF (T1.item Y rfl rfl rfl hc j _ s12 (wipe σ8 us) H12 (fun _ _ => False) I12 (okFq n12) st12 go1) fun r s13 ⟨u1, hr, h13⟩ => ?_
            subst hr
            refine thnF h13 fun _ s14 ⟨x1, H14, I14, r14, y14, st14, n14⟩ => ?_
            refine thnF (qg1.run _ s14 (wipe σ8 us) H14 x1 u1 _ (I14.pinned (okFq n14) (T1.obj _ _ st14)) r14 (step1 x1 H14 y14)) fun _ s15 ⟨τ, H15, I15, w15, q15⟩ => ?_
            refine thnF (qt1.run _ s15 τ H15 _ I15 q15) fun b1 s16 ⟨H16, I16, q16⟩ => ?_
            have close1 : ∀ {s' : Shared} {H' : Hp}, Inv Y (([] ++ pinsAt fp s7.heap) ++ pinsAt fq s14.heap) τ H' s' → Nx1 H' →
                ∃ m, m < k ∧ ∃ j H', Inv Y ([] ++ pinsAt fp s7.heap) (wipe σ8 us) H' s' ∧ tm j s'.heap ∧ (∀ b ∈ fq, H' b = none) ∧ W1 j m H' := fun {s' H'} K nx => by
              obtain ⟨m', hm, w'⟩ := hNx1 H' nx
              have held : ∀ b ∈ fq, ∀ o, s14.heap.get? b = some o → s'.heap.get? b = some o ∧ H' b = none := fun b hb o e =>
                let z := K.pin (b, o) (List.mem_append_right _ (List.mem_append_right _ (mem_pinsAt hb e)))
                ⟨z.1, z.2.1⟩
              refine ⟨m', hm, j + 1, H', K.unpinned.weak (by rw [← w15, wipe_length]) (fun j v e => ?_), T1.keep _ _ _ st14 fun b hb o e => (held b hb o e).1, fun b hb => ?_, w'⟩
              · rw [← w15] at e
                exact (wipe_some e).1
              · obtain ⟨o, e, _⟩ := T1.obj _ _ st14 b hb
                exact (held b hb o e).2
            cases b1 with
            | false =>
              simp only [Bool.false_eq_true, if_false] at q16 ⊢
              exact close1 I16 q16
            | true =>
              simp only [if_true] at q16 ⊢
              refine thnF (qe.run _ s16 τ H16 _ I16 q16) fun z s17 ⟨yv, H17, I17, r17, k0, S0, n0, ey, d17, room, nx⟩ => ?_
              subst ey
              exact add_int (X := Y) I17 d17 room r17 fun s18 I18 => close1 I18 nx
        exact start_inner loop1 (T1.self X.A 0 _ _ _ st11 loop1)
  exact PpSet.codeAny_compStart_set loop (T.self X.A 0 _ _ _ st4 loop)
end
end Ca

set_option maxHeartbeats 4000000
/-! values that read as data, and rules over them -/
namespace Ca
open PySem PySem.Spec PyProof.Rows L2
/-- a dict from ints to ints -/
def iK (p : Int × Int) : Key × V := (.inl p.1, .int p.2)
def iD (p : Int × Int) : PyData × PyData := (.int p.1, .int p.2)
mutual
/-- v reads as d off the tracked objects -/
inductive Rp (H : Hp) : V → PyData → Prop
  | non : Rp H .non .none
  | bl (b : Bool) : Rp H (.bl b) (.bool b)
  | int (i : Int) : Rp H (.int i) (.int i)
  | str (x : PySem.Str) : Rp H (.str x) (.str x)
  | lst {a : Addr} {xs : List V} {ds : List PyData} (h : H a = some (.lst xs)) (r : RpA H xs ds) : Rp H (.ref a) (.list ds)
  | tup {a : Addr} {xs : List V} {ds : List PyData} (h : H a = some (.tup xs)) (r : RpA H xs ds) : Rp H (.ref a) (.tuple ds)
  | dic {a : Addr} {ns : List (Int × Int)} (h : H a = some (.dK (ns.map iK))) : Rp H (.ref a) (.dict (ns.map iD))
inductive RpA (H : Hp) : List V → List PyData → Prop
  | nil : RpA H [] []
  | cons {v : V} {vs : List V} {d : PyData} {ds : List PyData} (h : Rp H v d) (r : RpA H vs ds) : RpA H (v :: vs) (d :: ds)
end
section
variable {H H' : Hp}
mutual
theorem Rp.mono (e : Same H H') : ∀ {d : PyData} {v : V}, Rp H v d → Rp H' v d
  | _, _, .non => .non
  | _, _, .bl b => .bl b
  | _, _, .int i => .int i
  | _, _, .str x => .str x
  | _, _, .lst h r => .lst (e _ _ h) (RpA.mono e r)
  | _, _, .tup h r => .tup (e _ _ h) (RpA.mono e r)
  | _, _, .dic h => .dic (e _ _ h)
theorem RpA.mono (e : Same H H') : ∀ {ds : List PyData} {vs : List V}, RpA H vs ds → RpA H' vs ds
  | _, _, .nil => .nil
  | _, _, .cons h r => .cons (Rp.mono e h) (RpA.mono e r)
end
theorem RpA.length : ∀ {vs : List V} {ds : List PyData}, RpA H vs ds → vs.length = ds.length
  | _, _, .nil => rfl
  | _, _, .cons _ r => by rw [List.length_cons, List.length_cons, r.length]
theorem RpA.get : ∀ {vs : List V} {ds : List PyData} {i : Nat} {v : V}, RpA H vs ds → vs[i]? = some v → ∃ d, ds[i]? = some d ∧ Rp H v d
  | _, _, _, _, .nil, e => by simp at e
  | _, _, 0, v, .cons h _, e => by
    cases (show some _ = some v from e)
    exact ⟨_, rfl, h⟩
  | _, _, i + 1, v, .cons _ r, e => by
    obtain ⟨d, h1, h2⟩ := RpA.get (i := i) r (by simpa using e)
    exact ⟨d, by simpa using h1, h2⟩
theorem RpA.at : ∀ {vs : List V} {ds : List PyData} {i : Nat} {d : PyData}, RpA H vs ds → ds[i]? = some d → ∃ v, vs[i]? = some v ∧ Rp H v d
  | _, _, _, _, .nil, e => by simp at e
  | _, _, 0, d, .cons h _, e => by
    cases (show some _ = some d from e)
    exact ⟨_, rfl, h⟩
  | _, _, i + 1, d, .cons _ r, e => by
    obtain ⟨v, h1, h2⟩ := RpA.at (i := i) r (by simpa using e)
    exact ⟨v, by simpa using h1, h2⟩
theorem RpA.append : ∀ {vs ws : List V} {ds es : List PyData}, RpA H vs ds → RpA H ws es → RpA H (vs ++ ws) (ds ++ es)
  | _, _, _, _, .nil, s => s
  | _, _, _, _, .cons h r, s => .cons h (RpA.append r s)
theorem RpA.take : ∀ {vs : List V} {ds : List PyData} (n : Nat), RpA H vs ds → RpA H (vs.take n) (ds.take n)
  | _, _, 0, _ => .nil
  | _, _, _ + 1, .nil => .nil
  | _, _, n + 1, .cons h r => .cons h (RpA.take n r)
theorem RpA.drop : ∀ {vs : List V} {ds : List PyData} (n : Nat), RpA H vs ds → RpA H (vs.drop n) (ds.drop n)
  | _, _, 0, r => r
  | _, _, _ + 1, .nil => .nil
  | _, _, n + 1, .cons _ r => RpA.drop n r
/-- the class that a datum has -/
def tyD : PyData → String
  | .none => "NoneType"
  | .bool _ => "bool"
  | .int _ => "int"
  | .str _ => "str"
  | .list _ => "list"
  | .tuple _ => "tuple"
  | .dict _ => "dict"
theorem Rp.ty {K : PySem.W.Frag} {v : V} {d : PyData} (h : Rp H v d) : TyX K H v (.type (tyD d)) := by
  cases h with
  | non => exact .base .non
  | bl b => exact .base (.bl b)
  | int i => exact .base (.int i)
  | str x => exact .base (.str x)
  | lst h r => exact .base (.lst h)
  | tup h r => exact .base (.tup h)
  | dic h => exact .base (.dK h)
theorem Rp.isI {v : V} {d : PyData} (h : Rp H v d) {i : Int} (e : d = .int i) : v = .int i := by
  subst e; cases h; rfl
theorem Rp.isS {v : V} {d : PyData} (h : Rp H v d) {x : PySem.Str} (e : d = .str x) : v = .str x := by
  subst e; cases h; rfl
theorem Rp.isB {v : V} {d : PyData} (h : Rp H v d) {b : Bool} (e : d = .bool b) : v = .bl b := by
  subst e; cases h; rfl
end
section
variable {X : Cx} {pins : List (Addr × Obj)} {σ : L2.St} {H : Hp} {s : Shared}
theorem reads_ints {P : Program} {w : World} {h : Heap} : ∀ {l : List DictEntry} {vs : List (Key × Value)} {ns : List (Int × Int)}, Pairs (mixKind P w) l vs → KV (ns.map iK) vs → ReadsAll h (l.map (·.key)) ((ns.map iD).map (·.1)) [] ∧ ReadsAll h (l.map (·.val)) ((ns.map iD).map (·.2)) []
  | [], _, [], _, _ => ⟨.nil, .nil⟩
  | [], _, p :: ns, hp, kv => by
    cases hp
    cases kv
  | e :: l, _, [], hp, kv => by
    cases kv
    cases hp
  | e :: l, _, p :: ns, hp, kv => by
    cases hp with
    | @cons _ kx _ _ h1 h2 hp =>
      obtain ⟨k, v⟩ := kx
      cases kv with
      | cons r kv =>
        obtain ⟨q1, q2⟩ := reads_ints hp kv
        obtain ⟨e1, e2⟩ := r
        have e1 : Sum.inl p.1 = k := e1
        subst e1
        obtain ⟨t, e2⟩ := (show ∃ t, v = Value.int p.2 t from e2)
        have h1 : keyIs (.inl p.1) e.key = true := h1
        rcases keyIs_shape h1 with ⟨i, u, z1, z2⟩ | ⟨x, u, z1, z2⟩
        · cases z1
          refine ⟨?_, ?_⟩
          · have := ReadsAll.cons (h := h) (Reads.int p.1 u) q1
            rw [← z2] at this
            exact this
          · have := ReadsAll.cons (h := h) (Reads.int p.2 t) q2
            rw [← e2] at this
            have h2 : e.val = v := h2
            rw [← h2] at this
            exact this
        · cases z1
mutual
theorem Rp.reads (I : Inv X pins σ H s) (sm : ∃ o, X.K.lookup sysModules = some o) : ∀ (d : PyData) (v : V) (u : Value), Rp H v d → RelV v u → ∃ as, Reads s.heap u d as ∧ sysModules ∉ as
  | .none, _, _, h, r => by
    cases h
    cases r
    exact ⟨_, Reads.none, by simp⟩
  | .bool b, _, _, h, r => by
    cases h
    cases r
    exact ⟨_, Reads.bool b, by simp⟩
  | .int i, _, _, h, r => by
    cases h
    obtain ⟨t, rfl⟩ := r
    exact ⟨_, Reads.int i t, by simp⟩
  | .str x, _, _, h, r => by
    cases h
    obtain ⟨t, rfl⟩ := r
    exact ⟨_, Reads.str x t, by simp⟩
  | .list ds, _, _, h, r => by
    cases h with
    | @lst a xs _ h q =>
      cases r
      obtain ⟨_, its, n, rv, ho⟩ := (show ObjOk X.prog X.w H s.heap a (.lst xs) from I.hok a _ h)
      obtain ⟨as, hr, hn⟩ := Rp.readsA I sm ds _ its q rv
      refine ⟨_, Reads.list ho rfl rfl (by simpa using hr), fun z => ?_⟩
      rcases List.mem_cons.mp z with z | z
      · obtain ⟨o, e⟩ := sm
        rw [← z, (I.bs sysModules o (I.ok.mod.kin _ _ e)).2] at h
        cases h
      · exact hn z
  | .tuple ds, _, _, h, r => by
    cases h with
    | @tup a xs _ h q =>
      cases r
      obtain ⟨_, its, rv, o, ho, hc, n, hd⟩ := (show ObjOk X.prog X.w H s.heap a (.tup xs) from I.hok a _ h)
      obtain ⟨as, hr, hn⟩ := Rp.readsA I sm ds _ its q rv
      exact ⟨_, Reads.tuple ho hc hd (by simpa using hr), hn⟩
  | .dict kvs, _, _, h, r => by
    cases h with
    | @dic a ns h =>
      cases r
      obtain ⟨_, hs, vs, kv, o, es, ep, ho, hx, hd, _, hp, _⟩ := (show ObjOk X.prog X.w H s.heap a (.dK (ns.map iK)) from I.hok a _ h)
      obtain ⟨r1, r2⟩ := reads_ints hp kv
      refine ⟨_, Reads.dict (kvs := ns.map iD) ho hx.1 hd r1 r2, fun z => ?_⟩
      have z2 : sysModules = a := by simpa using z
      rw [z2] at hs
      simp at hs
theorem Rp.readsA (I : Inv X pins σ H s) (sm : ∃ o, X.K.lookup sysModules = some o) : ∀ (ds : List PyData) (vs : List V) (us : List Value), RpA H vs ds → Vals vs us → ∃ as, ReadsAll s.heap us ds as ∧ sysModules ∉ as
  | [], _, _, h, r => by
    cases h
    cases r
    exact ⟨_, .nil, by simp⟩
  | d :: ds, _, _, h, r => by
    cases h with
    | cons h1 h2 =>
      cases r with
      | cons r1 r2 =>
        obtain ⟨as, q1, n1⟩ := Rp.reads I sm d _ _ h1 r1
        obtain ⟨bs, q2, n2⟩ := Rp.readsA I sm ds _ _ h2 r2
        refine ⟨_, .cons q1 q2, fun z => ?_⟩
        rcases List.mem_append.mp z with z | z
        · exact n1 z
        · exact n2 z
end
end
end Ca

set_option maxHeartbeats 4000000
namespace Ca
open PySem PySem.Spec PyProof.Rows L2
mutual
theorem reads_lt {h : Heap} : ∀ {u : Value} {d : PyData} {as : List Addr}, Reads h u d as → ∀ {x : Addr}, x ∈ as → x < h.objs.size
  | _, _, _, .none, x, z => by simp at z
  | _, _, _, .bool _, x, z => by simp at z
  | _, _, _, .int _ _, x, z => by simp at z
  | _, _, _, .str _ _, x, z => by simp at z
  | _, _, _, .list ho _ _ r, x, z => by
    rcases List.mem_cons.mp z with z | z
    · rw [z]
      exact Heap.lt_size ho
    · exact readsA_lt r z
  | _, _, _, .tuple ho _ _ r, x, z => readsA_lt r z
  | _, _, _, .dict ho _ _ r1 r2, x, z => by
    rcases List.mem_append.mp z with z | z
    · rcases List.mem_cons.mp z with z | z
      · rw [z]
        exact Heap.lt_size ho
      · exact readsA_lt r1 z
    · exact readsA_lt r2 z
theorem readsA_lt {h : Heap} : ∀ {us : List Value} {ds : List PyData} {as : List Addr}, ReadsAll h us ds as → ∀ {x : Addr}, x ∈ as → x < h.objs.size
  | _, _, _, .nil, x, z => by simp at z
  | _, _, _, .cons r1 r2, x, z => by
    rcases List.mem_append.mp z with z | z
    · exact reads_lt r1 z
    · exact readsA_lt r2 z
end
section
variable {X : Cx}
/-- repr(x) of data -/
def rRepr : List V → Hp → VK → Prop := fun xs H Q => ∃ x d, xs = [x] ∧ Rp H x d ∧ d.showable = true ∧ d.depth ≤ 60 ∧ d.shown.length ≤ sizeLine ∧ Q (.str d.shown) H
theorem call_repr {k : Nat} (sm : ∃ o, X.K.lookup sysModules = some o) (hg : X.A.guards = some []) (hr : Room k X.A) : CallR X (.builtin "repr") rRepr := by
  intro pins s σ H xs us Q I r h
  obtain ⟨x, d, rfl, rp, hs, hdp, hz, q⟩ := h
  have hu : X.A.units + 64 < cLine := hr.units
  cases r with
  | @cons _ u _ _ r1 rt =>
    cases rt
    obtain ⟨as, rd, hn⟩ := Rp.reads I sm d x u rp r1
    have fin : ∀ (h' : Heap) (tk : Tok) (t2 : Nat), (∀ b o, s.heap.get? b = some o → h'.get? b = some o) → EP X pins σ Q (.str d.shown tk) { s with heap := h', toks := t2 } := fun h' tk t2 k =>
      ⟨.str d.shown, H, I.kept (t' := t2) k, ⟨tk, rfl⟩, q⟩
    cases rp with
    | non =>
      obtain rfl : u = Value.none := r1
      exact P.repr_of_none (fin _ _ _ fun _ _ e => e)
    | bl b =>
      obtain rfl : u = Value.bool b := r1
      exact P.repr_of_bool (fin _ _ _ fun _ _ e => e)
    | int i =>
      obtain ⟨t, rfl⟩ := (show ∃ t, u = Value.int i t from r1)
      refine P.repr_of_int ?_ (fin _ _ _ fun _ _ e => e)
      simpa [PyData.showable] using hs
    | str y =>
      obtain ⟨t, rfl⟩ := (show ∃ t, u = Value.str y t from r1)
      exact P.repr_of_str (fin _ _ _ fun _ _ e => e) hz
    | lst h q =>
      cases (show u = Value.ref _ from r1)
      exact repr_of_reads' rd hs (fun _ => hn) hg (by omega) (fun _ _ e => e) (fun h' u tk k => fin h' u tk k) hz
    | tup h q =>
      cases (show u = Value.ref _ from r1)
      exact repr_of_reads' rd hs (fun _ => hn) hg (by omega) (fun _ _ e => e) (fun h' u tk k => fin h' u tk k) hz
    | dic h =>
      cases (show u = Value.ref _ from r1)
      exact repr_of_reads' rd hs (fun _ => hn) hg (by omega) (fun _ _ e => e) (fun h' u tk k => fin h' u tk k) hz
/-- len(x) of an own instance -/
def rLenO (C : Addr) (sp : Sp) : List V → Hp → VK → Prop := fun xs H Q => ∃ a dx fs, xs = [.ref a] ∧ H a = some (.ins C dx fs) ∧
  sp [.ref a] H (fun v H' => ∃ n : Int, v = .int n ∧ 0 ≤ n ∧ n < 2 ^ 63 ∧ Q (.int n) H') E0
theorem call_lenO {C f : Addr} {k : Nat} {fd : FuncData} {sp : Sp} (hs : PySem.W.findIn X.K (.ref C) "__len__" = some (some (.ref f))) (hf : PySem.W.isFn X.K (.ref f) = true)
    (F : FnOk X.prog X.w X.K X.mg X.base CX0 k f fd ["self"] sp) (hb : Binds X.K fd ["self"] []) (hr : Room (k + 1) X.A) : CallR X (.builtin "len") (rLenO C sp) := by
  intro pins s σ H xs us Q I r h
  obtain ⟨a, dx, fs, rfl, ha, q⟩ := h
  cases r with
  | @cons _ u _ _ r1 rt =>
    cases rt
    cases (show u = Value.ref a from r1)
    obtain ⟨mA, O, _⟩ := ins_get I.hok ha
    obtain ⟨od, J, _⟩ := O.look
    obtain ⟨m, fr⟩ := I.fr
    refine PySem.W.len_K fr I.ok.mod.kin J hs hf ?_
    have r2 : Vals [V.ref a] [Value.ref a] := .cons rfl .nil
    refine wpAny_call (codeAny_mono (F.run X.A.in1 X.stack s H ⟨[.ref a], []⟩ [.ref a] [.ref a] _ E0 hr.in1 I.env0.in1 (hb s [.ref a] I.kIn (by simp)) r2 q) fun r s' hq => ?_)
    cases r with
    | error e => exact False.elim hq
    | ok fl =>
      cases fl with
      | ret u =>
        obtain ⟨v, H', J', rv, n, rfl, h0, h1, q2⟩ := I.after hq
        obtain ⟨t, rfl⟩ := rv
        exact ⟨⟨h0, h1⟩, .int n, H', J'.tok _, ⟨_, rfl⟩, q2⟩
      | _ => exact False.elim hq
/-- sorted(x), x a list or a tuple of alike data: bs the items with what they read as -/
def sortD (bs : List (V × PyData)) : List (V × PyData) := bs.mergeSort (PySem.W.dataLe false Prod.snd)
def rSortD : List V → Hp → VK → Prop := fun xs H Q => ∃ (a : Addr) (bs : List (V × PyData)), xs = [.ref a] ∧ (H a = some (.lst (bs.map Prod.fst)) ∨ H a = some (.tup (bs.map Prod.fst))) ∧
  (∀ b ∈ bs, Rp H b.1 b.2) ∧ PySem.W.AllAlike (bs.map Prod.snd) ∧ PySem.W.Sortable (bs.map Prod.snd) ∧ (∀ b ∈ bs, b.2.depth ≤ 60) ∧ bs.length ≤ sizeLine ∧
  ∀ p, H p = none → Q (.ref p) (upd H p (.lst ((sortD bs).map Prod.fst)))
theorem each_of : ∀ {bs : List (V × PyData)} {us : List Value}, Vals (bs.map Prod.fst) us → PySem.W.EachIs (fun (u : Value) (b : V × PyData) => RelV b.1 u) us bs
  | [], _, .nil => .nil
  | _ :: _, _, .cons r t => .cons r (each_of t)
theorem of_each : ∀ {bs : List (V × PyData)} {us : List Value}, PySem.W.EachIs (fun (u : Value) (b : V × PyData) => RelV b.1 u) us bs → Vals (bs.map Prod.fst) us
  | [], _, .nil => .nil
  | _ :: _, _, .cons r t => .cons r (of_each t)
theorem each_rd {pins : List (Addr × Obj)} {σ : L2.St} {H : Hp} {s : Shared} (I : Inv X pins σ H s) (sm : ∃ o, X.K.lookup sysModules = some o) {h' : Heap} {l : Addr} (hl : s.heap.objs.size ≤ l)
    (kp : ∀ b o, s.heap.get? b = some o → h'.get? b = some o) : ∀ {bs : List (V × PyData)} {us : List Value}, (∀ b ∈ bs, Rp H b.1 b.2) → Vals (bs.map Prod.fst) us →
    PySem.W.EachIs (fun (u : Value) (b : V × PyData) => ∃ as, Reads h' u b.2 as ∧ l ∉ as) us bs
  | [], _, _, .nil => .nil
  | b :: bs, _, h, .cons r t => by
    obtain ⟨as, rd, _⟩ := Rp.reads I sm b.2 b.1 _ (h b (.head _)) r
    refine .cons ⟨as, PyProof.Rows.Reads.keeps kp rd, fun z => ?_⟩ (each_rd I sm hl kp (fun c hc => h c (.tail _ hc)) t)
    exact absurd (reads_lt rd z) (Nat.not_lt.mpr hl)
theorem cr_sortD {k : Nat} (sm : ∃ o, X.K.lookup sysModules = some o) (hr : Room k X.A) : CallR X (.builtin "sorted") rSortD := by
  intro pins s σ H xs us Q I r h
  obtain ⟨a, bs, rfl, ha, hrp, hal, hso, hdp, hlen, q⟩ := h
  have hu : X.A.units + 64 < cLine := hr.units
  rw [Vals.ref1 r]
  obtain ⟨T, hT, its, o, n, rv, ho, hc, hd⟩ : ∃ T, (T = "list" ∨ T = "tuple") ∧ ∃ (its : List Value) (o : Obj) (n : Nat), Vals (bs.map Prod.fst) its ∧ s.heap.get? a = some o ∧ o.cls = .type T ∧ o.data = .seq its.toArray n := by
    rcases ha with ha | ha
    · obtain ⟨_, its, n, rv, ho⟩ := (show ObjOk X.prog X.w H s.heap a (.lst (bs.map Prod.fst)) from I.hok a _ ha)
      exact ⟨"list", .inl rfl, its, _, n, rv, ho, rfl, rfl⟩
    · obtain ⟨_, its, rv, o, ho, hc, n, hd⟩ := (show ObjOk X.prog X.w H s.heap a (.tup (bs.map Prod.fst)) from I.hok a _ ha)
      exact ⟨"tuple", .inr rfl, its, o, n, rv, ho, hc, hd⟩
  have li : its.length = bs.length := by rw [← rv.length, List.length_map]
  refine Calls.call_function_entry kind_sorted plain_sorted entry_sorted (args_sorted1 _) ?_
  unfold Builtin.«sorted»
  refine wpAny_bind (m := checkCount "sorted" 1 1 _) (wpAny_pure ?_)
  refine wpAny_bind (wpAny_collect_seq a hT ho hc hd (fun h1 k1 => ?_) (by rw [List.size_toArray, li]; exact hlen))
  refine wpAny_bind (wpAny_newList ?_ (by simpa [li] using hlen))
  have I1 : Inv X pins σ H { s with heap := h1 } := I.kept (t' := s.toks) k1
  have kp : ∀ b o, h1.get? b = some o → (h1.push (seqObj "list" its.toArray 0)).get? b = some o := fun b o e => Heap.get?_push_of_some _ e
  have hL : (h1.push (seqObj "list" its.toArray 0)).get? h1.objs.size = some (seqObj "list" its.toArray 0) := Heap.get?_push_size _ rfl
  have er := each_rd (l := h1.objs.size) I1 sm (Nat.le_refl _) kp hrp rv
  show wpAny (model X.prog X.w) X.A.in1 _ _ _ { s with heap := h1.push (seqObj "list" its.toArray 0) }
  refine wpAny_bind (wpAny_holding (PySem.W.list_sort_data (bs := bs) (enc := Prod.snd) (R := fun (u : Value) (b : V × PyData) => RelV b.1 u) (vs := its) (n := 0) hL (each_of rv) er hal hso hlen
    (fun b hb => ?_) fun out ho1 ho2 => wpAny_pure ⟨_, rfl, ?_⟩))
  · have z := hdp b hb
    show X.A.units + 1 + 1 + b.2.depth < cLine
    omega
  · have vo := of_each ho2
    have hn : H h1.objs.size = none := I1.hok.fresh (Nat.le_refl _)
    have old : ∀ b o, h1.get? b = some o → (sortedHeap (h1.push (seqObj "list" its.toArray 0)) h1.objs.size its out.toArray).get? b = some o := fun b o e => by
      have lt := Heap.lt_size e
      rw [sortedHeap_old (Nat.ne_of_lt lt) (by rw [size_push']; exact Nat.lt_succ_of_lt lt)]
      exact kp b o e
    obtain ⟨c, hat⟩ := sortedHeap_at (out := out.toArray) hL
    have lo : ((sortD bs).map Prod.fst).length ≤ sizeLine := by
      rw [List.length_map]
      unfold sortD
      rw [List.length_mergeSort]
      exact hlen
    exact ⟨.ref h1.objs.size, upd H h1.objs.size (.lst ((sortD bs).map Prod.fst)), I1.laid (t' := s.toks) old (Nat.le_refl _) ⟨lo, out, c, vo, hat⟩, rfl, q _ hn⟩
end
end Ca

set_option maxHeartbeats 4000000
namespace Q
open PySem PySem.Spec PyProof.Rows L2 Ca
theorem bIsi : bootBuiltins "isinstance" = some (.builtin "isinstance") := by decide +kernel
theorem bInt : bootBuiltins "int" = some (.type "int") := by decide +kernel
theorem bBool : bootBuiltins "bool" = some (.type "bool") := by decide +kernel
theorem bStr : bootBuiltins "str" = some (.type "str") := by decide +kernel
theorem bTup : bootBuiltins "tuple" = some (.type "tuple") := by decide +kernel
theorem bLst : bootBuiltins "list" = some (.type "list") := by decide +kernel
theorem bLen : bootBuiltins "len" = some (.builtin "len") := by decide +kernel
theorem bAll : bootBuiltins "all" = some (.builtin "all") := by decide +kernel
theorem bSorted : bootBuiltins "sorted" = some (.builtin "sorted") := by decide +kernel
theorem bRepr : bootBuiltins "repr" = some (.builtin "repr") := by decide +kernel
theorem bMax : bootBuiltins "max" = some (.builtin "max") := by decide +kernel
theorem bMin : bootBuiltins "min" = some (.builtin "min") := by decide +kernel
/-! ### the text -/
abbrev FnP (K : PySem.W.Frag) (x : PySem.Str) (st : Stmt) (f : Addr) (fd : FuncData) : Prop := FunD K x x (defArgs st) (defBody st) (defScope st) [] [] f fd
abbrev FnM (K : PySem.W.Frag) (x q : PySem.Str) (st : Stmt) (f : Addr) (fd : FuncData) : Prop := FunD K x q (defArgs st) (defBody st) (defScope st) [] [] f fd
/-- the built-in names that the text does not bind, the module's constants -/
structure Tx (K : PySem.W.Frag) (mg : PySem.Str → Option Value) : Prop where
  isi : mg "isinstance" = none
  int : mg "int" = none
  bool : mg "bool" = none
  str : mg "str" = none
  tup : mg "tuple" = none
  lst : mg "list" = none
  len : mg "len" = none
  all : mg "all" = none
  sorted : mg "sorted" = none
  repr : mg "repr" = none
  max : mg "max" = none
  min : mg "min" = none
  range : mg "range" = none
  kinds : ∃ a, mg "KINDS" = some (.ref a) ∧ ∀ H : Hp, SqT K H a [.str "A", .str "B", .str "C"]
  mAtoms : ∃ t, mg "MOST_ATOMS" = some (.int 4 t)
  mVar : ∃ t, mg "MOST_VARIABLE" = some (.int 9 t)
  sm : ∃ o, K.lookup sysModules = some o
/-! ### is_number -/
abbrev s_is_number : Stmt := top 4
def isNum (d : PyData) (lo hi : Int) : Bool := match d with
  | .int i => decide (lo ≤ i) && decide (i ≤ hi)
  | _ => false
def spNum : Sp := fun vs H Q _ => ∃ v d lo hi, vs = [v, .int lo, .int hi] ∧ Rp H v d ∧ Q (.bl (isNum d lo hi)) H
theorem sc_num : FnScope ["thing", "least", "most"] ["thing", "least", "most"] (defScope s_is_number) := ⟨rfl, rfl, rfl, by decide +kernel, rfl, by decide +kernel, by decide +kernel⟩
section
variable {P : Program} {w : World} {K : PySem.W.Frag} {mg : PySem.Str → Option Value} {base : Heap}
/-- isinstance(x, T) of data -/
def isInt : PyData → Bool
  | .int _ => true
  | .bool _ => true
  | _ => false
def isBool : PyData → Bool
  | .bool _ => true
  | _ => false
def isTup : PyData → Bool
  | .tuple _ => true
  | _ => false
def isStr : PyData → Bool
  | .str _ => true
  | _ => false
theorem kInt {K : PySem.W.Frag} : ∀ d : PyData, PySem.W.kitOne K (.type (tyD d)) (.type "int") = some (isInt d)
  | .none => kit_ty (show kitB "NoneType" "int" = some false by decide +kernel)
  | .bool _ => kit_ty (show kitB "bool" "int" = some true by decide +kernel)
  | .int _ => kit_ty (show kitB "int" "int" = some true by decide +kernel)
  | .str _ => kit_ty (show kitB "str" "int" = some false by decide +kernel)
  | .list _ => kit_ty (show kitB "list" "int" = some false by decide +kernel)
  | .tuple _ => kit_ty (show kitB "tuple" "int" = some false by decide +kernel)
  | .dict _ => kit_ty (show kitB "dict" "int" = some false by decide +kernel)
theorem kBool {K : PySem.W.Frag} : ∀ d : PyData, PySem.W.kitOne K (.type (tyD d)) (.type "bool") = some (isBool d)
  | .none => kit_ty (show kitB "NoneType" "bool" = some false by decide +kernel)
  | .bool _ => kit_ty (show kitB "bool" "bool" = some true by decide +kernel)
  | .int _ => kit_ty (show kitB "int" "bool" = some false by decide +kernel)
  | .str _ => kit_ty (show kitB "str" "bool" = some false by decide +kernel)
  | .list _ => kit_ty (show kitB "list" "bool" = some false by decide +kernel)
  | .tuple _ => kit_ty (show kitB "tuple" "bool" = some false by decide +kernel)
  | .dict _ => kit_ty (show kitB "dict" "bool" = some false by decide +kernel)
theorem kTup {K : PySem.W.Frag} : ∀ d : PyData, PySem.W.kitOne K (.type (tyD d)) (.type "tuple") = some (isTup d)
  | .none => kit_ty (show kitB "NoneType" "tuple" = some false by decide +kernel)
  | .bool _ => kit_ty (show kitB "bool" "tuple" = some false by decide +kernel)
  | .int _ => kit_ty (show kitB "int" "tuple" = some false by decide +kernel)
  | .str _ => kit_ty (show kitB "str" "tuple" = some false by decide +kernel)
  | .list _ => kit_ty (show kitB "list" "tuple" = some false by decide +kernel)
  | .tuple _ => kit_ty (show kitB "tuple" "tuple" = some true by decide +kernel)
  | .dict _ => kit_ty (show kitB "dict" "tuple" = some false by decide +kernel)
theorem kStr {K : PySem.W.Frag} : ∀ d : PyData, PySem.W.kitOne K (.type (tyD d)) (.type "str") = some (isStr d)
  | .none => kit_ty (show kitB "NoneType" "str" = some false by decide +kernel)
  | .bool _ => kit_ty (show kitB "bool" "str" = some false by decide +kernel)
  | .int _ => kit_ty (show kitB "int" "str" = some false by decide +kernel)
  | .str _ => kit_ty (show kitB "str" "str" = some true by decide +kernel)
  | .list _ => kit_ty (show kitB "list" "str" = some false by decide +kernel)
  | .tuple _ => kit_ty (show kitB "tuple" "str" = some false by decide +kernel)
  | .dict _ => kit_ty (show kitB "dict" "str" = some false by decide +kernel)
theorem ok_num {f : Addr} {fd : FuncData} (F : FnP K "is_number" s_is_number f fd) (T : Tx K mg) : FnOk P w K mg base CX0 1 f fd ["thing", "least", "most"] spNum := by
  refine F.ok sc_num (fun vs H Q E h => ?_) (fun cdv A outer s H vs Q E hr h => ?_)
  · obtain ⟨v, d, lo, hi, rfl, _⟩ := h
    rfl
  · obtain ⟨v, d, lo, hi, rfl, rp, q⟩ := h
    refine ⟨_, PSs.nox (pss_one (ps_ret (pe_and (pe_callB call_isi (by rfl) T.isi bIsi (pa_cons (pv 0) (pa_cons (pe_bltn (v := .ty "int") (by rfl) T.int bInt rfl) pa_nil)))
      (pe_and (pe_not (pe_callB call_isi (by rfl) T.isi bIsi (pa_cons (pv 0) (pa_cons (pe_bltn (v := .ty "bool") (by rfl) T.bool bBool rfl) pa_nil))))
        (pe_one (pe_chain op_le op_le (pv 1) (pv 0) (pv 2))))))), ?_⟩
    refine ⟨_, rfl, _, _, _, _, _, rfl, .ty _, rp.ty, kInt d, _, rfl, ?_⟩
    cases hi1 : isInt d with
    | false =>
      refine iteF ?_
      have e : isNum d lo hi = false := by cases d <;> first | rfl | cases hi1
      rw [e] at q
      exact q
    | true =>
      refine iteT ⟨_, rfl, _, _, _, _, _, rfl, .ty _, rp.ty, kBool d, _, rfl, _, rfl, ?_⟩
      cases hb1 : isBool d with
      | true =>
        have e : isNum d lo hi = false := by cases d <;> first | rfl | cases hb1
        rw [e] at q
        exact iteF q
      | false =>
        refine iteT ?_
        cases rp with
        | int i =>
          refine ⟨_, rfl, _, rfl, lo, i, rfl, rfl, decide (lo ≤ i), rfl, ?_⟩
          by_cases c : lo ≤ i
          · have e : isNum (.int i) lo hi = decide (i ≤ hi) := by simp [isNum, c]
            rw [e] at q
            rw [decide_eq_true c]
            exact iteT ⟨_, rfl, i, hi, rfl, rfl, q⟩
          · have e : isNum (.int i) lo hi = false := by simp [isNum, c]
            rw [e] at q
            rw [decide_eq_false c]
            exact iteF q
        | bl b => cases hb1
        | _ => cases hi1
end
end Q

set_option maxHeartbeats 4000000
namespace Q
open PySem PySem.Spec PyProof.Rows L2 Ca
/-! ### is_triple -/
abbrev s_is_triple : Stmt := top 5
def kindOk (k : PySem.Str) : Bool := inV (.str k) [.str "A", .str "B", .str "C"]
def isTri (d : PyData) (m : Int) : Bool := match d with
  | .tuple [.str k, l, r] => kindOk k && (isNum l 0 m && isNum r 0 m)
  | _ => false
theorem isTri_tup {ds : List PyData} {m : Int} (h : ds.length ≠ 3) : isTri (.tuple ds) m = false := by
  match ds, h with
  | [], _ => rfl
  | [a], _ => cases a <;> rfl
  | [a, b], _ => cases a <;> rfl
  | [a, b, c], h => exact absurd rfl h
  | a :: b :: c :: e :: r, _ => cases a <;> rfl
theorem isTri_not {d : PyData} {m : Int} (h : isTup d = false) : isTri d m = false := by
  cases d <;> first | rfl | cases h
theorem isTri_kind {k l r : PyData} {m : Int} (h : isStr k = false) : isTri (.tuple [k, l, r]) m = false := by
  cases k <;> first | rfl | cases h
def spTri : Sp := fun vs H Q _ => ∃ v d m, vs = [v, .int m] ∧ Rp H v d ∧ Q (.bl (isTri d m)) H
theorem sc_tri : FnScope ["thing", "most", "kind", "left", "right"] ["thing", "most"] (defScope s_is_triple) := ⟨rfl, rfl, rfl, by decide +kernel, rfl, by decide +kernel, by decide +kernel⟩
section
variable {P : Program} {w : World} {K : PySem.W.Frag} {mg : PySem.Str → Option Value} {base : Heap}
theorem ok_tri {f fN : Addr} {fd fdN : FuncData} (F : FnP K "is_triple" s_is_triple f fd) (T : Tx K mg) (FN : FnP K "is_number" s_is_number fN fdN) (gN : mg "is_number" = some (.ref fN)) :
    FnOk P w K mg base CX0 2 f fd ["thing", "most"] spTri := by
  have GN : FnOk P w K mg base CX0 1 fN fdN ["thing", "least", "most"] spNum := ok_num FN T
  have bN : Binds K fdN ["thing", "least", "most"] [] := FN.bindsN fun _ _ _ _ _ _ us hl => match us, hl with | [_, _, _], _ => rfl
  obtain ⟨aK, gK, sK⟩ := T.kinds
  refine F.ok sc_tri (fun vs H Q E h => ?_) (fun cdv A outer s H vs Q E hr h => ?_)
  · obtain ⟨v, d, m, rfl, _⟩ := h
    rfl
  · obtain ⟨v, d, m, rfl, rp, q⟩ := h
    refine ⟨_, PSs.nox (pss_cons (ps_if (PW.pt (pw_or (pt_not (pt_val (pe_callB call_isi (by rfl) T.isi bIsi (pa_cons (pv 0) (pa_cons (pe_bltn (v := .ty "tuple") (by rfl) T.tup bTup rfl) pa_nil)))))
        (pw_or1 (pt_cmpR op_ne (pe_callB call_len_seq (by rfl) T.len bLen (pa_cons (pv 0) pa_nil)) pe_int (nomark _))))) (pss_one (ps_ret pe_bl)) pss_nil)
      (pss_cons (ps_asg (pv 0) (pg_tup (by rfl) (pgs_cons (pg_name (i := 2) sc_tri.nd rfl (.inl rfl)) (pgs_cons (pg_name (i := 3) sc_tri.nd rfl (.inl rfl)) (pgs_cons (pg_name (i := 4) sc_tri.nd rfl (.inl rfl)) pgs_nil)))))
      (pss_cons (ps_if (PW.pt (pw_or (pt_not (pt_val (pe_callB call_isi (by rfl) T.isi bIsi (pa_cons (pv 2) (pa_cons (pe_bltn (v := .ty "str") (by rfl) T.str bStr rfl) pa_nil)))))
        (pw_or1 (pt_cmpR op_notIn_seq (pv 2) (pe_glob (v := .ref aK) rfl gK rfl) (by rfl))))) (pss_one (ps_ret pe_bl)) pss_nil)
      (pss_one (ps_ret (pe_and (pe_call GN hr rfl gN FN.kp bN .nil pass0 (pa_cons (pv 3) (pa_cons pe_int (pa_cons (pv 1) pa_nil))))
        (pe_one (pe_call GN hr rfl gN FN.kp bN .nil pass0 (pa_cons (pv 4) (pa_cons pe_int (pa_cons (pv 1) pa_nil)))))))))) ), ?_⟩
    refine ⟨_, rfl, _, _, _, _, _, rfl, .ty _, rp.ty, kTup d, _, rfl, ?_⟩
    cases hT : isTup d with
    | false =>
      rw [isTri_not hT] at q
      exact iteT (iteT q)
    | true =>
      refine iteF ?_
      cases rp with
      | @tup a xs ds h r =>
        refine ⟨_, rfl, a, xs, rfl, .inr (.inl (.inl h)), rfl, _, rfl, ?_⟩
        have hl := r.length
        by_cases h3 : ds.length = 3
        · have e3 : (!decide (V.int ((xs.length : Nat) : Int) = V.int 3)) = false := by
            rw [hl, h3]
            rfl
          rw [e3]
          refine iteF ?_
          match ds, h3 with
          | [dk, dl, dr], _ =>
            cases r with
            | @cons vk _ _ _ rk r =>
              cases r with
              | @cons vl _ _ _ rl r =>
                cases r with
                | @cons vr _ _ _ rr r =>
                  cases r
                  refine ⟨_, rfl, a, _, rfl, .inl (.inl h), rfl, vk, _, rfl, vl, _, rfl, vr, _, rfl, rfl, ?_⟩
                  refine ⟨_, rfl, _, _, _, _, _, rfl, .ty _, rk.ty, kStr dk, _, rfl, ?_⟩
                  cases hS : isStr dk with
                  | false =>
                    rw [isTri_kind hS] at q
                    exact iteT (iteT q)
                  | true =>
                    refine iteF ?_
                    cases rk with
                    | str k =>
                      refine ⟨_, rfl, aK, _, rfl, .inr (sK H), rfl, rfl, _, rfl, ?_⟩
                      show if (!kindOk k) = true then _ else _
                      cases hk : kindOk k with
                      | false =>
                        have e : isTri (.tuple [.str k, dl, dr]) m = false := by simp [isTri, hk]
                        rw [e] at q
                        exact iteT q
                      | true =>
                        refine iteF ?_
                        have e : isTri (.tuple [.str k, dl, dr]) m = (isNum dl 0 m && isNum dr 0 m) := by simp [isTri, hk]
                        rw [e] at q
                        refine ⟨_, rfl, _, rfl, vl, dl, 0, m, rfl, rl, _, rfl, ?_⟩
                        cases hn : isNum dl 0 m with
                        | false =>
                          rw [hn] at q
                          exact iteF q
                        | true =>
                          rw [hn] at q
                          exact iteT ⟨_, rfl, _, rfl, vr, dr, 0, m, rfl, rr, q⟩
                    | _ => cases hS
        · have e3 : (!decide (V.int ((xs.length : Nat) : Int) = V.int 3)) = true := by
            have z : ¬ V.int ((xs.length : Nat) : Int) = V.int 3 := fun z => by
              injection z with z
              omega
            rw [decide_eq_false z]
            rfl
          rw [e3]
          rw [isTri_tup h3] at q
          exact iteT q
      | _ => cases hT
end
end Q

set_option maxHeartbeats 4000000
namespace Ca
open PySem PySem.Spec PyProof.Rows L2
/-- the heap without what stands at D -/
def off (D : Addr) (H : Hp) : Hp := fun a => if a = D then none else H a
theorem off_ne {D a : Addr} {H : Hp} (h : a ≠ D) : off D H a = H a := if_neg h
theorem off_same {D : Addr} {H : Hp} : Same (off D H) H := fun b o e => by
  unfold off at e
  split at e
  · cases e
  · exact e
theorem off_mono {D : Addr} {H H' : Hp} (h : Same H H') : Same (off D H) (off D H') := fun b o e => by
  unfold off at e ⊢
  split at e
  · cases e
  · rename_i hb
    rw [if_neg hb]
    exact h b o e
theorem off_upd {D : Addr} {H : Hp} {o : HO} : off D (upd H D o) = off D H := by
  funext b
  unfold off
  split
  · rfl
  · rename_i hb
    exact upd_ne hb
theorem same_new {H : Hp} {D : Addr} {o : HO} (h : H D = none) : Same H (upd H D o) := fun b u e => by
  rw [upd_ne (ne_of_none e h)]
  exact e
theorem same_mut {H H' : Hp} {D : Addr} {o : HO} (s : Same H H') (h : H D = none) : Same H (upd H' D o) := fun b u e => by
  rw [upd_ne (ne_of_none e h)]
  exact s b u e
/-- what is kept of the items so far -/
abbrev keptD (F : PyData → Option PyData) (l : List PyData) : List PyData := l.filterMap F
theorem keptD_app (F : PyData → Option PyData) (a b : List PyData) : keptD F (a ++ b) = keptD F a ++ keptD F b := List.filterMap_append ..
theorem keptD_len (F : PyData → Option PyData) (l : List PyData) : (keptD F l).length ≤ l.length := List.length_filterMap_le ..
theorem keptD_map (f : PyData → PyData) (l : List PyData) : keptD (fun d => some (f d)) l = l.map f := by
  induction l with
  | nil => rfl
  | cons d l ih =>
    show List.filterMap _ (d :: l) = _
    rw [List.filterMap_cons]
    show f d :: List.filterMap _ l = _
    rw [show List.filterMap (fun d => some (f d)) l = l.map f from ih]
    rfl
theorem take_more {α : Type} : ∀ {l : List α} {i : Nat} {x : α}, l[i]? = some x → l.take (i + 1) = l.take i ++ [x]
  | [], i, x, h => by simp at h
  | a :: l, 0, x, h => by
    cases (show some a = some x from h)
    rfl
  | a :: l, i + 1, x, h => by
    have ih := take_more (l := l) (i := i) (x := x) (by simpa using h)
    show a :: l.take (i + 1) = (a :: l.take i) ++ [x]
    rw [ih]
    rfl
/-- one more item appended at D -/
def Ap (D : Addr) (Nx : Hp → Prop) (y : V) (H : Hp) : Prop := ∃ acc, H D = some (.lst acc) ∧ acc.length < sizeLine ∧ Nx (upd H D (.lst (acc ++ [y])))
/-- a turn of a comprehension: item x reads as d; what is appended reads as F d (nothing where F d is none) -/
abbrev LcTurn (σ : L2.St) (vs : List Nat) (g : TG) (tt : TT) (te : TE) (D : Addr) (H : Hp) (ds : List PyData) (F : PyData → Option PyData) : Prop :=
  ∀ (x : V) (d : PyData) (H' : Hp) (Nx : Hp → Prop), d ∈ ds → Same H H' → H' D ≠ none → Rp (off D H') x d →
    (∀ (y : V) (e : PyData) (H4 : Hp), F d = some e → Same H' H4 → Rp (off D H4) y e → Ap D Nx y H4) → (F d = none → ∀ H4, Same H' H4 → Nx H4) →
    g x (wipe σ vs) H' fun σ2 H2 => wipe σ2 vs = wipe σ vs ∧ tt σ2 H2 fun b H3 => if b = true then te σ2 H3 (Ap D Nx) else Nx H3
abbrev LcInv (H : Hp) (D : Addr) (ds : List PyData) (F : PyData → Option PyData) (i : Nat) (H' : Hp) : Prop :=
  Same H H' ∧ ∃ acc, H' D = some (.lst acc) ∧ RpA (off D H') acc (keptD F (ds.take i))
section
variable {K : PySem.W.Frag} {a D : Addr} {xs : List V} {ds : List PyData} {H : Hp} {σ : L2.St} {vs : List Nat} {g : TG} {tt : TT} {te : TE} {F : PyData → Option PyData} {Qd : Hp → Prop}
theorem lc_turn (hD : H D = none) (r : RpA H xs ds) (hz : ds.length ≤ 1000) (ht : LcTurn σ vs g tt te D H ds F) : ∀ i x H', xs[i]? = some x → LcInv H D ds F i H' →
    g x (wipe σ vs) H' fun σ2 H2 => wipe σ2 vs = wipe σ vs ∧ tt σ2 H2 fun b H3 => if b = true then te σ2 H3 fun y H4 => ∃ acc, H4 D = some (.lst acc) ∧ acc.length < sizeLine ∧
      LcInv H D ds F (i + 1) (upd H4 D (.lst (acc ++ [y]))) else LcInv H D ds F (i + 1) H3 := by
  intro i x H' hi ⟨s, acc, hacc, ra⟩
  obtain ⟨d, hd, rx⟩ := r.get hi
  have e1 : ds.take (i + 1) = ds.take i ++ [d] := take_more hd
  have kD : Same H (off D H') := fun b o e => by
    rw [off_ne (ne_of_none e hD)]
    exact s b o e
  refine ht x d H' (LcInv H D ds F (i + 1)) (List.mem_of_getElem? hd) s (by rw [hacc]; simp) (rx.mono kD) (fun y e H4 hF s4 ry => ?_) (fun hF H4 s4 => ?_)
  · refine ⟨acc, s4 _ _ hacc, ?_, ?_⟩
    · have l1 := ra.length
      have l2 := keptD_len F (ds.take i)
      have l3 : (ds.take i).length ≤ 1000 := by rw [List.length_take]; omega
      have : acc.length ≤ 1000 := by omega
      exact small1000 this
    · refine ⟨same_mut (s.trans s4) hD, _, upd_same, ?_⟩
      rw [off_upd, e1, keptD_app]
      have e2 : keptD F [d] = [e] := by simp [keptD, hF]
      rw [e2]
      exact (ra.mono (off_mono s4)).append (.cons ry .nil)
  · refine ⟨s.trans s4, acc, s4 _ _ hacc, ?_⟩
    have e2 : keptD F [d] = [] := by simp [keptD, hF]
    rw [e1, keptD_app, e2, List.append_nil]
    exact ra.mono (off_mono s4)
theorem lc_fin (r : RpA H xs ds) (hq : ∀ H' acc, Same H H' → H' D = some (.lst acc) → RpA (off D H') acc (keptD F ds) → Qd H') : ∀ H', LcInv H D ds F xs.length H' → Qd H' := by
  intro H' ⟨s, acc, h1, h2⟩
  rw [r.length, List.take_length] at h2
  exact hq H' acc s h1 h2
theorem lc_ini (hD : H D = none) : LcInv H D ds F 0 (upd H D (.lst [])) := ⟨same_new hD, [], upd_same, .nil⟩
/-- what a comprehension's reading asks behind its source -/
abbrev LcW (J : It) (σ : L2.St) (vs : List Nat) (g : TG) (tt : TT) (te : TE) (H1 : Hp) (D : Addr) (Qd : Hp → Prop) : Prop :=
  ∃ W : Nat → Nat → Hp → Prop, (∃ m, W 0 m (upd H1 D (.lst []))) ∧ ∀ i m H, W i m H → (J.stop i H ∧ Qd H) ∨ (J.go i H ∧ ∃ Nx : Hp → Prop,
    (∀ H', Nx H' → ∃ m', m' < m ∧ W (i + 1) m' H') ∧ ∀ x H', J.yld i H x H' → g x (wipe σ vs) H' fun σ2 H2 => wipe σ2 vs = wipe σ vs ∧ tt σ2 H2 fun b H3 =>
      if b = true then te σ2 H3 fun y H4 => ∃ acc, H4 D = some (.lst acc) ∧ acc.length < sizeLine ∧ Nx (upd H4 D (.lst (acc ++ [y]))) else Nx H3)
/-- over a tuple, a list -/
theorem lcT (hx : H a = some (.tup xs)) (r : RpA H xs ds) (hz : ds.length ≤ 1000) (hD : H D = none) (ht : LcTurn σ vs g tt te D H ds F)
    (hq : ∀ H' acc, Same H H' → H' D = some (.lst acc) → RpA (off D H') acc (keptD F ds) → Qd H') : LcW (Itt K a) σ vs g tt te H D Qd :=
  lc_tup (LcInv H D ds F) (lc_ini hD) (fun i H' _ p => .inl (.inl (p.1 _ _ hx))) (lc_turn hD r hz ht) (lc_fin r hq)
theorem lcL (hx : H a = some (.lst xs)) (r : RpA H xs ds) (hz : ds.length ≤ 1000) (hD : H D = none) (ht : LcTurn σ vs g tt te D H ds F)
    (hq : ∀ H' acc, Same H H' → H' D = some (.lst acc) → RpA (off D H') acc (keptD F ds) → Qd H') : LcW (Itl K a) σ vs g tt te H D Qd :=
  lc_list (LcInv H D ds F) (lc_ini hD) (fun i H' _ p => .inl (.inl (p.1 _ _ hx))) (lc_turn hD r hz ht) (lc_fin r hq)
end
end Ca

set_option maxHeartbeats 4000000
namespace Q
open PySem PySem.Spec PyProof.Rows L2 Ca
/-! ### are_atoms -/
abbrev s_are_atoms : Stmt := top 37
def areAt (ds : List PyData) : Bool := decide (1 ≤ ds.length) && decide (ds.length ≤ 4) && ds.all fun d => isTri d 9
def spAre : Sp := fun vs H Q _ => ∃ v d ds, vs = [v] ∧ Rp H v d ∧ (d = .tuple ds ∨ d = .list ds) ∧ ds.length ≤ 1000 ∧ ∀ H', Same H H' → Q (.bl (areAt ds)) H'
theorem sc_are : FnScope ["things", "thing"] ["things"] (defScope s_are_atoms) := ⟨rfl, rfl, rfl, by decide +kernel, rfl, by decide +kernel, by decide +kernel⟩
theorem bools_of {H : Hp} {f : PyData → Bool} : ∀ {acc : List V} {ds : List PyData}, RpA H acc (ds.map fun d => .bool (f d)) → acc = (ds.map f).map V.bl
  | _, [], h => by
    cases h
    rfl
  | _, d :: ds, h => by
    cases h with
    | cons h1 h2 =>
      cases h1
      rw [bools_of h2]
      rfl
theorem all_id {f : PyData → Bool} (ds : List PyData) : (ds.map f).all id = ds.all f := by
  induction ds with
  | nil => rfl
  | cons d ds ih => simp [ih]
section
variable {P : Program} {w : World} {K : PySem.W.Frag} {mg : PySem.Str → Option Value} {base : Heap}
theorem ok_are {f fT : Addr} {fd fdT : FuncData} (F : FnP K "are_atoms" s_are_atoms f fd) (T : Tx K mg) (GT : FnOk P w K mg base CX0 2 fT fdT ["thing", "most"] spTri) (bT : Binds K fdT ["thing", "most"] [])
    (kT : PySem.W.keepIn K (.ref fT) = true) (gT : mg "is_triple" = some (.ref fT)) : FnOk P w K mg base CX0 3 f fd ["things"] spAre := by
  obtain ⟨t1, g1⟩ := T.mAtoms
  obtain ⟨t2, g2⟩ := T.mVar
  refine F.ok sc_are (fun vs H Q E h => ?_) (fun cdv A outer s H vs Q E hr h => ?_)
  · obtain ⟨v, d, ds, rfl, _⟩ := h
    rfl
  · obtain ⟨v, d, ds, rfl, rp, hd, hz, q⟩ := h
    have fin : ∀ {k : Bool} {H' : Hp}, Same H H' → k = areAt ds → Q (.bl k) H' := fun s e => by rw [e]; exact q _ s
    rcases hd with rfl | rfl
    · cases rp with
      | @tup a xs _ h r =>
        refine ⟨_, PSs.nox (pss_one (ps_ret (pe_and (pe_chain op_le op_le pe_int (pe_callB call_len_seq (by rfl) T.len bLen (pa_cons (pv 0) pa_nil)) (pe_glob (v := .int 4) rfl g1 ⟨t1, rfl⟩))
          (pe_one (pe_callB (cr_all rfl) (by rfl) T.all bAll (pa_cons (pe_lc (own := [("thing", 1)]) (g := gName 1) (tt := tYes) rfl sc_are.nd (pi_tup (pv 0))
            (blkOk_by (own := [("thing", 1)]) (N := ["things", "thing"]) (sc := defScope s_are_atoms) (by decide +kernel))
            (fun _ _ _ _ _ => pg_name (i := 1) sc_are.nd rfl (Or.inl rfl)) (fun _ _ _ _ _ => pts_nil)
            (fun _ _ _ _ _ => pe_call GT hr rfl gT kT bT .nil pass0 (pa_cons (pv 1) (pa_cons (pe_glob (v := .int 9) rfl g2 ⟨t2, rfl⟩) pa_nil)))) pa_nil)))))), ?_⟩
        have hl := r.length
        refine ⟨_, rfl, a, xs, rfl, .inr (.inl (.inl h)), 1, _, rfl, rfl, decide ((1 : Int) ≤ ((xs.length : Nat) : Int)), rfl, ?_⟩
        by_cases c1 : (1 : Int) ≤ ((xs.length : Nat) : Int)
        · rw [decide_eq_true c1]
          refine iteT ⟨_, 4, rfl, rfl, decide (((xs.length : Nat) : Int) ≤ 4), rfl, ?_⟩
          by_cases c2 : ((xs.length : Nat) : Int) ≤ 4
          · rw [decide_eq_true c2]
            refine iteT ⟨_, rfl, a, rfl, ⟨_, .inl (.inl h)⟩, fun D hD => lcT (F := fun d => some (.bool (isTri d 9))) h r hz hD (fun x d H' Nx _ s1 hn rx c _ => ⟨rfl, ?_⟩) fun H' acc s1 h1 h2 => ?_⟩
            · refine ⟨x, rfl, x, d, 9, rfl, rx.mono off_same, ?_⟩
              exact c _ _ H' rfl (Same.refl _) (.bl _)
            · rw [keptD_map] at h2
              have ea := bools_of h2
              subst ea
              refine ⟨D, _, rfl, .inl (.inl h1), fin s1 ?_⟩
              have k1 : decide (1 ≤ ds.length) = true := decide_eq_true (by omega)
              have k2 : decide (ds.length ≤ 4) = true := decide_eq_true (by omega)
              rw [all_id]
              simp [areAt, k1, k2]
          · rw [decide_eq_false c2]
            refine iteF (fin (Same.refl _) ?_)
            have k2 : decide (ds.length ≤ 4) = false := decide_eq_false (by omega)
            simp [areAt, k2]
        · rw [decide_eq_false c1]
          refine iteF ⟨_, rfl, iteF (fin (Same.refl _) ?_)⟩
          have k1 : decide (1 ≤ ds.length) = false := decide_eq_false (by omega)
          simp [areAt, k1]
    · cases rp with
      | @lst a xs _ h r =>
        refine ⟨_, PSs.nox (pss_one (ps_ret (pe_and (pe_chain op_le op_le pe_int (pe_callB call_len_seq (by rfl) T.len bLen (pa_cons (pv 0) pa_nil)) (pe_glob (v := .int 4) rfl g1 ⟨t1, rfl⟩))
          (pe_one (pe_callB (cr_all rfl) (by rfl) T.all bAll (pa_cons (pe_lc (own := [("thing", 1)]) (g := gName 1) (tt := tYes) rfl sc_are.nd (pi_list (pv 0))
            (blkOk_by (own := [("thing", 1)]) (N := ["things", "thing"]) (sc := defScope s_are_atoms) (by decide +kernel))
            (fun _ _ _ _ _ => pg_name (i := 1) sc_are.nd rfl (Or.inl rfl)) (fun _ _ _ _ _ => pts_nil)
            (fun _ _ _ _ _ => pe_call GT hr rfl gT kT bT .nil pass0 (pa_cons (pv 1) (pa_cons (pe_glob (v := .int 9) rfl g2 ⟨t2, rfl⟩) pa_nil)))) pa_nil)))))), ?_⟩
        have hl := r.length
        refine ⟨_, rfl, a, xs, rfl, .inl (.inl (.inl h)), 1, _, rfl, rfl, decide ((1 : Int) ≤ ((xs.length : Nat) : Int)), rfl, ?_⟩
        by_cases c1 : (1 : Int) ≤ ((xs.length : Nat) : Int)
        · rw [decide_eq_true c1]
          refine iteT ⟨_, 4, rfl, rfl, decide (((xs.length : Nat) : Int) ≤ 4), rfl, ?_⟩
          by_cases c2 : ((xs.length : Nat) : Int) ≤ 4
          · rw [decide_eq_true c2]
            refine iteT ⟨_, rfl, a, rfl, ⟨_, .inl (.inl h)⟩, fun D hD => lcL (F := fun d => some (.bool (isTri d 9))) h r hz hD (fun x d H' Nx _ s1 hn rx c _ => ⟨rfl, ?_⟩) fun H' acc s1 h1 h2 => ?_⟩
            · refine ⟨x, rfl, x, d, 9, rfl, rx.mono off_same, ?_⟩
              exact c _ _ H' rfl (Same.refl _) (.bl _)
            · rw [keptD_map] at h2
              have ea := bools_of h2
              subst ea
              refine ⟨D, _, rfl, .inl (.inl h1), fin s1 ?_⟩
              have k1 : decide (1 ≤ ds.length) = true := decide_eq_true (by omega)
              have k2 : decide (ds.length ≤ 4) = true := decide_eq_true (by omega)
              rw [all_id]
              simp [areAt, k1, k2]
          · rw [decide_eq_false c2]
            refine iteF (fin (Same.refl _) ?_)
            have k2 : decide (ds.length ≤ 4) = false := decide_eq_false (by omega)
            simp [areAt, k2]
        · rw [decide_eq_false c1]
          refine iteF ⟨_, rfl, iteF (fin (Same.refl _) ?_)⟩
          have k1 : decide (1 ≤ ds.length) = false := decide_eq_false (by omega)
          simp [areAt, k1]
end
end Q

set_option maxHeartbeats 1000000
namespace Ca
open PySem PySem.Spec PyProof.Rows L2
/-! a tuple whose one object is known whole: its own methods may be asked for -/
def FzT (H : Hp) (a : Addr) (xs : List V) : Prop := ∃ ob : Obj, H a = some (.frz ob (.tup xs)) ∧ ob.cls = .type "tuple" ∧ ob.dict = none
theorem FzT.mono {H H' : Hp} {a : Addr} {xs : List V} (s : Same H H') (h : FzT H a xs) : FzT H' a xs :=
  let ⟨ob, e, c, d⟩ := h
  ⟨ob, s _ _ e, c, d⟩
theorem FzT.rd {H : Hp} {a : Addr} {xs : List V} (h : FzT H a xs) : Rd H a (.tup xs) :=
  let ⟨ob, e, _⟩ := h
  .inr ⟨ob, e⟩
theorem FzT.put {H : Hp} {a b : Addr} {o : HO} {xs : List V} (ne : a ≠ b) (h : FzT H a xs) : FzT (upd H b o) a xs :=
  let ⟨ob, e, c, d⟩ := h
  ⟨ob, by rw [upd_ne ne]; exact e, c, d⟩
/-- tuple(l), l a list: the new tuple's object is known -/
def rTupF (K : PySem.W.Frag) : List V → Hp → VK → Prop := fun xs H Q => ∃ p ys, xs = [.ref p] ∧ SqL K H p ys ∧ ∀ (l : Addr) (ob : Obj), H l = none → ob.cls = .type "tuple" → ob.dict = none → Q (.ref l) (upd H l (.frz ob (.tup ys)))
theorem call_tupF {X : Cx} : CallR X (.type "tuple") (rTupF X.K) := fun pins s σ H xs us Q I r h => by
  obtain ⟨p, ys, rfl, isl, q⟩ := h
  obtain ⟨u, rfl, rx⟩ := r.one
  cases (show u = Value.ref p from rx)
  obtain ⟨its, r', pl, hz⟩ := I.list isl
  have hlen := r'.length
  have few : its.toArray.size ≤ sizeLine := by
    rw [List.size_toArray]
    omega
  refine call_tuple_list pl.isList (fun h' same => ?_) few
  have I1 := I.kept (t' := s.toks) same
  have I2 : Inv X pins σ (upd H h'.objs.size (.frz { cls := .type "tuple", data := .seq its.toArray } (.tup ys))) { s with heap := h'.push { cls := .type "tuple", data := .seq its.toArray } } :=
    I1.laid (t' := s.toks) (fun b o e => Heap.get?_push_of_some _ e) (Nat.le_refl _) (show ObjOk X.prog X.w _ _ _ (.frz _ (.tup ys)) from ⟨Heap.get?_push_size _ rfl, hz, its, r', IsTup.new _ _⟩)
  exact ⟨.ref h'.objs.size, _, I2, rfl, q _ _ (I1.hok.fresh (Nat.le_refl _)) rfl rfl⟩
end Ca

set_option maxHeartbeats 4000000
namespace Q
open PySem PySem.Spec PyProof.Rows L2 Ca
/-! ### atoms, variables_of -/
structure At where
  k : PySem.Str
  l : Int
  r : Int
def atD (a : At) : PyData := .tuple [.str a.k, .int a.l, .int a.r]
def vars (as : List At) : List Int := as.flatMap fun a => [a.l, a.r]
theorem vars_app (a b : List At) : vars (a ++ b) = vars a ++ vars b := List.flatMap_append ..
abbrev s_variables_of : Stmt := top 40
def spVars : Sp := fun vs H Q _ => ∃ (v : V) (d : PyData) (as : List At), vs = [v] ∧ Rp H v d ∧ (d = .tuple (as.map atD) ∨ d = .list (as.map atD)) ∧ as.length ≤ 30 ∧
  ∀ (p : Addr) (ns : List Int) (H' : Hp), H p = none → Same H H' → FzT H' p (ns.map V.int) → ns.Pairwise (· < ·) → (∀ k : Int, k ∈ ns ↔ k ∈ vars as) → Q (.ref p) H'
theorem sc_vars : FnScope ["atoms", "kind", "left", "right", "variable"] ["atoms"] (defScope s_variables_of) := ⟨rfl, rfl, rfl, by decide +kernel, rfl, by decide +kernel, by decide +kernel⟩
/-- an atom as it stands in the heap -/
theorem at_of {H : Hp} {x : V} {a : At} (h : Rp H x (atD a)) : ∃ p, x = .ref p ∧ H p = some (.tup [.str a.k, .int a.l, .int a.r]) := by
  cases h with
  | @tup p xs _ h r =>
    cases r with
    | cons h1 r => cases r with
      | cons h2 r => cases r with
        | cons h3 r =>
          cases r
          cases h1
          cases h2
          cases h3
          exact ⟨p, rfl, h⟩
theorem bound_scan {n : Nat} (h : n ≤ 100) : n + 1 < scanBound := by
  unfold scanBound
  omega
/-- what the set holds behind i atoms and j variables more -/
def SetIs (w : World) (H : Hp) (D : Addr) (l : List Int) (m : Nat) : Prop := ∃ S n, H D = some (SetO w D S n) ∧ (∀ k : Int, S k = true ↔ k ∈ l) ∧ n ≤ m
theorem SetIs.add {w : World} {H : Hp} {D : Addr} {l : List Int} {m : Nat} {S : Int → Bool} {n : Nat} (k : Int) (hS : ∀ k : Int, S k = true ↔ k ∈ l) (hn : n ≤ m) :
    SetIs w (upd H D (SetO w D (more S k) (cntS S n k))) D (l ++ [k]) (m + 1) := by
  refine ⟨_, _, upd_same, fun j => ?_, ?_⟩
  · unfold more
    rw [Bool.or_eq_true, hS j, List.mem_append, List.mem_singleton, decide_eq_true_iff]
  · unfold cntS
    split <;> omega
section
variable {P : Program} {w : World} {K : PySem.W.Frag} {mg : PySem.Str → Option Value} {base : Heap}
theorem ok_vars {f : Addr} {fd : FuncData} (F : FnP K "variables_of" s_variables_of f fd) (T : Tx K mg) : FnOk P w K mg base CX0 1 f fd ["atoms"] spVars := by
  refine F.ok sc_vars (fun vs H Q E h => ?_) (fun cdv A outer s H vs Q E hr h => ?_)
  · obtain ⟨v, d, as, rfl, _⟩ := h
    rfl
  · obtain ⟨v, d, as, rfl, rp, hd, hz, q⟩ := h
    rcases hd with rfl | rfl
    · cases rp with
      | @tup a xs _ h r =>
        refine ⟨_, PSs.nox (pss_one (ps_ret (pe_callTy call_tupF (by rfl) T.tup bTup (pa_cons (pe_callB (cr_sortedSet rfl) (by rfl) T.sorted bSorted (pa_cons
          (pe_sc2 (own := [("kind", 1), ("left", 2), ("right", 3), ("variable", 4)]) (us := [4]) (g := gTup K 3 (gCons (gName 1) (gCons (gName 2) (gCons (gName 3) gNil)))) (tt := tYes) (wj := iTup K (tTup (tCons (tVar 2) (tCons (tVar 3) tNil)))) (g1 := gName 4) (tt1 := tYes) (te := tVar 4) rfl sc_vars.nd (pi_tup (pv 0))
            (blkOk_by (own := [("kind", 1), ("left", 2), ("right", 3), ("variable", 4)]) (N := ["atoms", "kind", "left", "right", "variable"]) (sc := defScope s_variables_of) (by decide +kernel)) (by decide)
            (fun _ _ _ _ _ => pg_tup (by rfl) (pgs_cons (pg_name (i := 1) sc_vars.nd rfl (Or.inl rfl)) (pgs_cons (pg_name (i := 2) sc_vars.nd rfl (Or.inl rfl)) (pgs_cons (pg_name (i := 3) sc_vars.nd rfl (Or.inl rfl)) pgs_nil))))
            (fun _ _ _ _ _ => pts_nil) (fun _ _ _ _ _ => pi_tup (pe_tup (pa_cons (pv 2) (pa_cons (pv 3) pa_nil)))) (fun _ _ _ _ _ => pg_name (i := 4) sc_vars.nd rfl (Or.inl rfl))
            (fun _ _ _ _ _ => pts_nil) (fun _ _ _ _ _ => pv 4)) pa_nil)) pa_nil)))), ?_⟩
        have hl := r.length
        rw [List.length_map] at hl
        refine ⟨_, rfl, a, rfl, ⟨_, .inl (.inl h)⟩, fun D hD => ?_⟩
        refine ⟨fun i m H' => m = xs.length - i ∧ i ≤ xs.length ∧ Same H H' ∧ SetIs w H' D (vars (as.take i)) (2 * i), ⟨xs.length, rfl, Nat.zero_le _, same_new hD, _, 0, upd_same, fun k => ?_, Nat.le_refl _⟩, ?_⟩
        · simp [vars]
        rintro i m H' ⟨rfl, hi, s1, S, n, hS, hm, hn⟩
        have sq := s1 _ _ h
        by_cases hlt : i < xs.length
        · refine .inr ⟨⟨xs, xs[i], .inl (.inl sq), by simp [hlt]⟩, fun H' => Same H H' ∧ SetIs w H' D (vars (as.take (i + 1))) (2 * (i + 1)), fun H' p' => ⟨xs.length - (i + 1), by omega, rfl, hlt, p'⟩, fun x H2 y => ?_⟩
          obtain ⟨rfl, y⟩ := y
          have hx := y xs (.inl (.inl sq))
          obtain ⟨d, hd, rx⟩ := r.get hx
          rw [List.getElem?_map] at hd
          obtain ⟨t, ht, rfl⟩ : ∃ t, as[i]? = some t ∧ atD t = d := by
            cases e : as[i]? with
            | none =>
              rw [e] at hd
              cases hd
            | some t =>
              rw [e] at hd
              exact ⟨t, rfl, Option.some.inj hd⟩
          obtain ⟨p, rfl, hp⟩ := at_of (rx.mono s1)
          have ev : vars (as.take (i + 1)) = vars (as.take i) ++ [t.l, t.r] := by
            rw [take_more ht, vars_app]
            rfl
          have i30 : i < 30 := by omega
          refine ⟨p, _, rfl, .inl (.inl hp), rfl, _, _, rfl, _, _, rfl, _, _, rfl, rfl, rfl, ?_⟩
          refine ⟨_, rfl, _, rfl, by show 2 ≤ sizeLine; decide, fun u hu => ⟨u, rfl, ⟨_, .inl (.inl upd_same)⟩, ?_⟩⟩
          have nDu : D ≠ u := ne_of_none hS hu
          refine ⟨fun j k H3 => k = 2 - j ∧ j ≤ 2 ∧ Same H H3 ∧ H3 u = some (.tup [.int t.l, .int t.r]) ∧ SetIs w H3 D (vars (as.take i) ++ [t.l, t.r].take j) (2 * i + j),
            ⟨2, rfl, by omega, fun b o e => ?_, upd_same, S, n, ?_, fun k => ?_, by omega⟩, ?_⟩
          · rw [upd_ne (ne_of_none (s1 b o e) hu)]
            exact s1 b o e
          · rw [upd_ne nDu]
            exact hS
          · rw [List.take_zero, List.append_nil]
            exact hm k
          rintro j k H3 ⟨rfl, hj, s3, hu3, S3, n3, hS3, hm3, hn3⟩
          by_cases hj2 : j < 2
          · refine .inr ⟨⟨_, [V.int t.l, V.int t.r][j], .inl (.inl hu3), by simp⟩, fun H3 => Same H H3 ∧ H3 u = some (.tup [.int t.l, .int t.r]) ∧ SetIs w H3 D (vars (as.take i) ++ [t.l, t.r].take (j + 1)) (2 * i + (j + 1)),
              fun H4 p4 => ⟨2 - (j + 1), by omega, rfl, by omega, p4⟩, fun x H4 y => ?_⟩
            obtain ⟨rfl, y⟩ := y
            have hx := y _ (.inl (.inl hu3))
            obtain ⟨z, hz1, rfl⟩ : ∃ z, [t.l, t.r][j]? = some z ∧ x = V.int z := by
              match j, hj2 with
              | 0, _ => exact ⟨t.l, rfl, (Option.some.inj hx).symm⟩
              | 1, _ => exact ⟨t.r, rfl, (Option.some.inj hx).symm⟩
            refine ⟨rfl, _, rfl, z, S3, n3, rfl, hS3, bound_scan (by omega), fun b o e => ?_, ?_, ?_⟩
            · rw [upd_ne (ne_of_none e hD)]
              exact s3 b o e
            · rw [upd_ne nDu.symm]
              exact hu3
            · have e4 := take_more hz1
              rw [e4, ← List.append_assoc]
              exact SetIs.add z hm3 hn3
          · have e2 : j = 2 := by omega
            subst e2
            refine .inl ⟨⟨_, .inl (.inl hu3), Nat.le_refl _⟩, s3, S3, n3, hS3, fun k => ?_, by omega⟩
            rw [ev]
            exact hm3 k
        · have e : i = xs.length := by omega
          subst e
          refine .inl ⟨⟨xs, .inl (.inl sq), Nat.le_refl _⟩, D, S, n, rfl, hS, by omega, fun ns u hs hk hln hu => ?_⟩
          refine ⟨u, _, rfl, .inl (.inl upd_same), fun p ob hp hc hd => ?_⟩
          have hp1 : H' p = none := by
            have z : p ≠ u := fun z => by
              rw [z, upd_same] at hp
              cases hp
            rw [upd_ne z] at hp
            exact hp
          refine q p ns _ (s1.free hp1) ((s1.trans (same_new hu)).trans (same_new hp)) ⟨ob, upd_same, hc, hd⟩ hs fun k => ?_
          rw [hk k, hm k, hl, List.take_length]
    · cases rp with
      | @lst a xs _ h r =>
        refine ⟨_, PSs.nox (pss_one (ps_ret (pe_callTy call_tupF (by rfl) T.tup bTup (pa_cons (pe_callB (cr_sortedSet rfl) (by rfl) T.sorted bSorted (pa_cons
          (pe_sc2 (own := [("kind", 1), ("left", 2), ("right", 3), ("variable", 4)]) (us := [4]) (g := gTup K 3 (gCons (gName 1) (gCons (gName 2) (gCons (gName 3) gNil)))) (tt := tYes) (wj := iTup K (tTup (tCons (tVar 2) (tCons (tVar 3) tNil)))) (g1 := gName 4) (tt1 := tYes) (te := tVar 4) rfl sc_vars.nd (pi_list (pv 0))
            (blkOk_by (own := [("kind", 1), ("left", 2), ("right", 3), ("variable", 4)]) (N := ["atoms", "kind", "left", "right", "variable"]) (sc := defScope s_variables_of) (by decide +kernel)) (by decide)
            (fun _ _ _ _ _ => pg_tup (by rfl) (pgs_cons (pg_name (i := 1) sc_vars.nd rfl (Or.inl rfl)) (pgs_cons (pg_name (i := 2) sc_vars.nd rfl (Or.inl rfl)) (pgs_cons (pg_name (i := 3) sc_vars.nd rfl (Or.inl rfl)) pgs_nil))))
            (fun _ _ _ _ _ => pts_nil) (fun _ _ _ _ _ => pi_tup (pe_tup (pa_cons (pv 2) (pa_cons (pv 3) pa_nil)))) (fun _ _ _ _ _ => pg_name (i := 4) sc_vars.nd rfl (Or.inl rfl))
            (fun _ _ _ _ _ => pts_nil) (fun _ _ _ _ _ => pv 4)) pa_nil)) pa_nil)))), ?_⟩
        have hl := r.length
        rw [List.length_map] at hl
        refine ⟨_, rfl, a, rfl, ⟨_, .inl (.inl h)⟩, fun D hD => ?_⟩
        refine ⟨fun i m H' => m = xs.length - i ∧ i ≤ xs.length ∧ Same H H' ∧ SetIs w H' D (vars (as.take i)) (2 * i), ⟨xs.length, rfl, Nat.zero_le _, same_new hD, _, 0, upd_same, fun k => ?_, Nat.le_refl _⟩, ?_⟩
        · simp [vars]
        rintro i m H' ⟨rfl, hi, s1, S, n, hS, hm, hn⟩
        have sq := s1 _ _ h
        by_cases hlt : i < xs.length
        · refine .inr ⟨⟨xs, xs[i], .inl (.inl sq), by simp [hlt]⟩, fun H' => Same H H' ∧ SetIs w H' D (vars (as.take (i + 1))) (2 * (i + 1)), fun H' p' => ⟨xs.length - (i + 1), by omega, rfl, hlt, p'⟩, fun x H2 y => ?_⟩
          obtain ⟨rfl, y⟩ := y
          have hx := y xs (.inl (.inl sq))
          obtain ⟨d, hd, rx⟩ := r.get hx
          rw [List.getElem?_map] at hd
          obtain ⟨t, ht, rfl⟩ : ∃ t, as[i]? = some t ∧ atD t = d := by
            cases e : as[i]? with
            | none =>
              rw [e] at hd
              cases hd
            | some t =>
              rw [e] at hd
              exact ⟨t, rfl, Option.some.inj hd⟩
          obtain ⟨p, rfl, hp⟩ := at_of (rx.mono s1)
          have ev : vars (as.take (i + 1)) = vars (as.take i) ++ [t.l, t.r] := by
            rw [take_more ht, vars_app]
            rfl
          have i30 : i < 30 := by omega
          refine ⟨p, _, rfl, .inl (.inl hp), rfl, _, _, rfl, _, _, rfl, _, _, rfl, rfl, rfl, ?_⟩
          refine ⟨_, rfl, _, rfl, by show 2 ≤ sizeLine; decide, fun u hu => ⟨u, rfl, ⟨_, .inl (.inl upd_same)⟩, ?_⟩⟩
          have nDu : D ≠ u := ne_of_none hS hu
          refine ⟨fun j k H3 => k = 2 - j ∧ j ≤ 2 ∧ Same H H3 ∧ H3 u = some (.tup [.int t.l, .int t.r]) ∧ SetIs w H3 D (vars (as.take i) ++ [t.l, t.r].take j) (2 * i + j),
            ⟨2, rfl, by omega, fun b o e => ?_, upd_same, S, n, ?_, fun k => ?_, by omega⟩, ?_⟩
          · rw [upd_ne (ne_of_none (s1 b o e) hu)]
            exact s1 b o e
          · rw [upd_ne nDu]
            exact hS
          · rw [List.take_zero, List.append_nil]
            exact hm k
          rintro j k H3 ⟨rfl, hj, s3, hu3, S3, n3, hS3, hm3, hn3⟩
          by_cases hj2 : j < 2
          · refine .inr ⟨⟨_, [V.int t.l, V.int t.r][j], .inl (.inl hu3), by simp⟩, fun H3 => Same H H3 ∧ H3 u = some (.tup [.int t.l, .int t.r]) ∧ SetIs w H3 D (vars (as.take i) ++ [t.l, t.r].take (j + 1)) (2 * i + (j + 1)),
              fun H4 p4 => ⟨2 - (j + 1), by omega, rfl, by omega, p4⟩, fun x H4 y => ?_⟩
            obtain ⟨rfl, y⟩ := y
            have hx := y _ (.inl (.inl hu3))
            obtain ⟨z, hz1, rfl⟩ : ∃ z, [t.l, t.r][j]? = some z ∧ x = V.int z := by
              match j, hj2 with
              | 0, _ => exact ⟨t.l, rfl, (Option.some.inj hx).symm⟩
              | 1, _ => exact ⟨t.r, rfl, (Option.some.inj hx).symm⟩
            refine ⟨rfl, _, rfl, z, S3, n3, rfl, hS3, bound_scan (by omega), fun b o e => ?_, ?_, ?_⟩
            · rw [upd_ne (ne_of_none e hD)]
              exact s3 b o e
            · rw [upd_ne nDu.symm]
              exact hu3
            · have e4 := take_more hz1
              rw [e4, ← List.append_assoc]
              exact SetIs.add z hm3 hn3
          · have e2 : j = 2 := by omega
            subst e2
            refine .inl ⟨⟨_, .inl (.inl hu3), Nat.le_refl _⟩, s3, S3, n3, hS3, fun k => ?_, by omega⟩
            rw [ev]
            exact hm3 k
        · have e : i = xs.length := by omega
          subst e
          refine .inl ⟨⟨xs, .inl (.inl sq), Nat.le_refl _⟩, D, S, n, rfl, hS, by omega, fun ns u hs hk hln hu => ?_⟩
          refine ⟨u, _, rfl, .inl (.inl upd_same), fun p ob hp hc hd => ?_⟩
          have hp1 : H' p = none := by
            have z : p ≠ u := fun z => by
              rw [z, upd_same] at hp
              cases hp
            rw [upd_ne z] at hp
            exact hp
          refine q p ns _ (s1.free hp1) ((s1.trans (same_new hu)).trans (same_new hp)) ⟨ob, upd_same, hc, hd⟩ hs fun k => ?_
          rw [hk k, hm k, hl, List.take_length]
end
end Q

set_option maxHeartbeats 4000000
namespace Q
open PySem PySem.Spec PyProof.Rows L2 Ca
/-! ### text_of_atoms -/
structure Good (a : At) : Prop where
  k : kindOk a.k = true
  l0 : 0 ≤ a.l
  l9 : a.l ≤ 9
  r0 : 0 ≤ a.r
  r9 : a.r ≤ 9
theorem kind_len {k : PySem.Str} (h : kindOk k = true) : k.length = 1 := by
  unfold kindOk inV at h
  rw [List.any_eq_true] at h
  obtain ⟨y, hy, e⟩ := h
  rcases List.mem_cons.mp hy with z | hy
  · subst z
    have e1 : PySem.Str.ofString "A" = k := by simpa [eqV] using e
    rw [← e1]
    decide +kernel
  · rcases List.mem_cons.mp hy with z | hy
    · subst z
      have e1 : PySem.Str.ofString "B" = k := by simpa [eqV] using e
      rw [← e1]
      decide +kernel
    · rcases List.mem_cons.mp hy with z | hy
      · subst z
        have e1 : PySem.Str.ofString "C" = k := by simpa [eqV] using e
        rw [← e1]
        decide +kernel
      · cases hy
theorem dig_len {i : Int} (h0 : 0 ≤ i) (h9 : i ≤ 9) : (PySem.Str.ofString (toString i)).length = 1 := by
  obtain ⟨n, rfl⟩ := Int.eq_ofNat_of_zero_le h0
  have h : ∀ n : Nat, n < 10 → (PySem.Str.ofString (toString ((n : Nat) : Int))).length = 1 := by decide +kernel
  exact h n (by omega)
theorem dig_log {i : Int} (h0 : 0 ≤ i) (h9 : i ≤ 9) : i.natAbs.log2 < 1920 := by
  obtain ⟨n, rfl⟩ := Int.eq_ofNat_of_zero_le h0
  have h : ∀ n : Nat, n < 10 → ((n : Int)).natAbs.log2 < 1920 := by decide +kernel
  exact h n (by omega)
theorem len_app (x y : PySem.Str) : (x ++ y).length = x.length + y.length := PySem.Str.length_append x y
def atT (a : At) : PySem.Str := a.k ++ PySem.Str.ofString (toString a.l) ++ PySem.Str.ofString (toString a.r)
theorem atT_len {a : At} (g : Good a) : (atT a).length = 3 := by
  unfold atT
  rw [len_app, len_app, kind_len g.k, dig_len g.l0 g.l9, dig_len g.r0 g.r9]
def txt (as : List At) : PySem.Str := Txt.join " " (as.map atT)
def atF (d : PyData) : Option PyData := match d with
  | .tuple [.str k, .int l, .int r] => some (.str (atT ⟨k, l, r⟩))
  | _ => none
theorem atF_map (as : List At) : (as.map atD).filterMap atF = as.map fun a => .str (atT a) := by
  induction as with
  | nil => rfl
  | cons a as ih =>
    rw [List.map_cons, List.filterMap_cons]
    show PyData.str (atT a) :: (as.map atD).filterMap atF = _
    rw [ih]
    rfl
theorem strs_of {H : Hp} {g : At → PySem.Str} : ∀ {acc : List V} {as : List At}, RpA H acc (as.map fun a => .str (g a)) → acc = (as.map g).map V.str
  | _, [], h => by
    cases h
    rfl
  | _, a :: as, h => by
    cases h with
    | cons h1 h2 =>
      cases h1
      rw [strs_of h2]
      rfl
theorem sum_len {as : List At} (h : ∀ a ∈ as, Good a) : ((as.map atT).map (·.length)).sum = 3 * as.length := by
  induction as with
  | nil => rfl
  | cons a as ih =>
    rw [List.map_cons, List.map_cons, List.sum_cons, ih fun b hb => h b (.tail _ hb), atT_len (h a (.head _)), List.length_cons]
    omega
def tJ3 : TE := fun σ H Q => tJs [tFmt (tVar 1), tFmt (tVar 2), tFmt (tVar 3)] PySem.Str.empty σ H fun out H1 => Q (.str out) H1
abbrev s_text_of_atoms : Stmt := top 38
def spText : Sp := fun vs H Q _ => ∃ (v : V) (d : PyData) (as : List At), vs = [v] ∧ Rp H v d ∧ (d = .tuple (as.map atD) ∨ d = .list (as.map atD)) ∧ as.length ≤ 30 ∧ (∀ a ∈ as, Good a) ∧
  ∀ H', Same H H' → Q (.str (txt as)) H'
theorem sc_text : FnScope ["atoms", "kind", "left", "right"] ["atoms"] (defScope s_text_of_atoms) := ⟨rfl, rfl, rfl, by decide +kernel, rfl, by decide +kernel, by decide +kernel⟩
section
variable {P : Program} {w : World} {K : PySem.W.Frag} {mg : PySem.Str → Option Value} {base : Heap}
theorem ok_text {f : Addr} {fd : FuncData} (F : FnP K "text_of_atoms" s_text_of_atoms f fd) (T : Tx K mg) : FnOk P w K mg base CX0 1 f fd ["atoms"] spText := by
  refine F.ok sc_text (fun vs H Q E h => ?_) (fun cdv A outer s H vs Q E hr h => ?_)
  · obtain ⟨v, d, as, rfl, _⟩ := h
    rfl
  · obtain ⟨v, d, as, rfl, rp, hd, hz, hg, q⟩ := h
    have small : ∀ n : Nat, n ≤ 1000 → n ≤ sizeLine := fun n h => Nat.le_of_lt (small1000 h)
    rcases hd with rfl | rfl
    · cases rp with
      | @tup a xs _ h r =>
        refine ⟨_, PSs.nox (pss_one (ps_ret (pe_join pe_str (pe_lc (own := [("kind", 1), ("left", 2), ("right", 3)]) (g := gTup K 3 (gCons (gName 1) (gCons (gName 2) (gCons (gName 3) gNil)))) (tt := tYes) rfl sc_text.nd (pi_tup (pv 0))
            (blkOk_by (own := [("kind", 1), ("left", 2), ("right", 3)]) (N := ["atoms", "kind", "left", "right"]) (sc := defScope s_text_of_atoms) (by decide +kernel))
            (fun _ _ _ _ _ => pg_tup (by rfl) (pgs_cons (pg_name (i := 1) sc_text.nd rfl (Or.inl rfl)) (pgs_cons (pg_name (i := 2) sc_text.nd rfl (Or.inl rfl)) (pgs_cons (pg_name (i := 3) sc_text.nd rfl (Or.inl rfl)) pgs_nil))))
            (fun _ _ _ _ _ => pts_nil) (fun _ _ _ _ _ => pe_joined (.cons (pe_fmt (pv 1)) (.cons (pe_fmt (pv 2)) (.cons (pe_fmt (pv 3)) .nil)))))))), ?_⟩
        refine ⟨⟨_, rfl⟩, _, rfl, a, rfl, ⟨_, .inl (.inl h)⟩, fun D hD => lcT (F := atF) (te := tJ3) h r (by rw [List.length_map]; omega) hD (fun x d H' Nx hm s1 hn rx c _ => ?_) fun H' acc s1 h1 h2 => ?_⟩
        · obtain ⟨t, ht, rfl⟩ := List.mem_map.mp hm
          have g := hg t ht
          obtain ⟨p, rfl, hp⟩ := at_of (rx.mono off_same)
          have kl := kind_len g.k
          have ll := dig_len g.l0 g.l9
          have rl := dig_len g.r0 g.r9
          refine ⟨p, _, rfl, .inl (.inl hp), rfl, _, _, rfl, _, _, rfl, _, _, rfl, rfl, rfl, ?_⟩
          refine ⟨_, rfl, .inl ⟨_, rfl, small _ (by omega), _, rfl, small _ (by rw [PySem.Str.empty_append]; omega), ?_⟩⟩
          refine ⟨_, rfl, .inr ⟨_, rfl, dig_log g.l0 g.l9, _, rfl, small _ (by rw [PySem.Str.empty_append, len_app]; omega), ?_⟩⟩
          refine ⟨_, rfl, .inr ⟨_, rfl, dig_log g.r0 g.r9, _, rfl, small _ (by rw [PySem.Str.empty_append, len_app, len_app]; omega), ?_⟩⟩
          rw [PySem.Str.empty_append]
          exact c _ _ H' rfl (Same.refl _) (.str _)
        · have h3 : RpA (off D H') acc (as.map fun a => .str (atT a)) := by
            rw [← atF_map]
            exact h2
          have ea := strs_of h3
          subst ea
          refine ⟨_, D, as.map atT, rfl, rfl, .inl (.inl (.inl h1)), ?_, q _ s1⟩
          rw [sum_len hg, List.length_map]
          have e1 : (PySem.Str.ofString " ").length = 1 := by decide +kernel
          rw [e1]
          omega
    · cases rp with
      | @lst a xs _ h r =>
        refine ⟨_, PSs.nox (pss_one (ps_ret (pe_join pe_str (pe_lc (own := [("kind", 1), ("left", 2), ("right", 3)]) (g := gTup K 3 (gCons (gName 1) (gCons (gName 2) (gCons (gName 3) gNil)))) (tt := tYes) rfl sc_text.nd (pi_list (pv 0))
            (blkOk_by (own := [("kind", 1), ("left", 2), ("right", 3)]) (N := ["atoms", "kind", "left", "right"]) (sc := defScope s_text_of_atoms) (by decide +kernel))
            (fun _ _ _ _ _ => pg_tup (by rfl) (pgs_cons (pg_name (i := 1) sc_text.nd rfl (Or.inl rfl)) (pgs_cons (pg_name (i := 2) sc_text.nd rfl (Or.inl rfl)) (pgs_cons (pg_name (i := 3) sc_text.nd rfl (Or.inl rfl)) pgs_nil))))
            (fun _ _ _ _ _ => pts_nil) (fun _ _ _ _ _ => pe_joined (.cons (pe_fmt (pv 1)) (.cons (pe_fmt (pv 2)) (.cons (pe_fmt (pv 3)) .nil)))))))), ?_⟩
        refine ⟨⟨_, rfl⟩, _, rfl, a, rfl, ⟨_, .inl (.inl h)⟩, fun D hD => lcL (F := atF) (te := tJ3) h r (by rw [List.length_map]; omega) hD (fun x d H' Nx hm s1 hn rx c _ => ?_) fun H' acc s1 h1 h2 => ?_⟩
        · obtain ⟨t, ht, rfl⟩ := List.mem_map.mp hm
          have g := hg t ht
          obtain ⟨p, rfl, hp⟩ := at_of (rx.mono off_same)
          have kl := kind_len g.k
          have ll := dig_len g.l0 g.l9
          have rl := dig_len g.r0 g.r9
          refine ⟨p, _, rfl, .inl (.inl hp), rfl, _, _, rfl, _, _, rfl, _, _, rfl, rfl, rfl, ?_⟩
          refine ⟨_, rfl, .inl ⟨_, rfl, small _ (by omega), _, rfl, small _ (by rw [PySem.Str.empty_append]; omega), ?_⟩⟩
          refine ⟨_, rfl, .inr ⟨_, rfl, dig_log g.l0 g.l9, _, rfl, small _ (by rw [PySem.Str.empty_append, len_app]; omega), ?_⟩⟩
          refine ⟨_, rfl, .inr ⟨_, rfl, dig_log g.r0 g.r9, _, rfl, small _ (by rw [PySem.Str.empty_append, len_app, len_app]; omega), ?_⟩⟩
          rw [PySem.Str.empty_append]
          exact c _ _ H' rfl (Same.refl _) (.str _)
        · have h3 : RpA (off D H') acc (as.map fun a => .str (atT a)) := by
            rw [← atF_map]
            exact h2
          have ea := strs_of h3
          subst ea
          refine ⟨_, D, as.map atT, rfl, rfl, .inl (.inl (.inl h1)), ?_, q _ s1⟩
          rw [sum_len hg, List.length_map]
          have e1 : (PySem.Str.ofString " ").length = 1 := by decide +kernel
          rw [e1]
          omega
end
end Q

set_option maxHeartbeats 4000000
namespace Q
open PySem PySem.Spec PyProof.Rows L2 Ca
/-! ### Question.__init__ -/
theorem num_int {d : PyData} {lo hi : Int} (h : isNum d lo hi = true) : ∃ i, d = .int i ∧ lo ≤ i ∧ i ≤ hi := by
  cases d with
  | int i =>
    have h2 : (decide (lo ≤ i) && decide (i ≤ hi)) = true := h
    rw [Bool.and_eq_true, decide_eq_true_iff, decide_eq_true_iff] at h2
    exact ⟨i, rfl, h2.1, h2.2⟩
  | _ => cases h
theorem tri_at {d : PyData} (h : isTri d 9 = true) : ∃ a : At, d = atD a ∧ Good a := by
  unfold isTri at h
  split at h
  · rename_i k l r
    rw [Bool.and_eq_true, Bool.and_eq_true] at h
    obtain ⟨h1, h2, h3⟩ := h
    obtain ⟨i, rfl, a1, a2⟩ := num_int h2
    obtain ⟨j, rfl, b1, b2⟩ := num_int h3
    exact ⟨⟨k, i, j⟩, rfl, h1, a1, a2, b1, b2⟩
  · cases h
theorem good_of : ∀ {ds : List PyData}, (∀ d ∈ ds, isTri d 9 = true) → ∃ as : List At, ds = as.map atD ∧ ∀ a ∈ as, Good a
  | [], _ => ⟨[], rfl, fun a h => by cases h⟩
  | d :: ds, h => by
    obtain ⟨a, rfl, g⟩ := tri_at (h d (.head _))
    obtain ⟨as, rfl, gs⟩ := good_of (ds := ds) fun e he => h e (.tail _ he)
    refine ⟨a :: as, rfl, fun b hb => ?_⟩
    rcases List.mem_cons.mp hb with z | z
    · rw [z]
      exact g
    · exact gs b z
theorem are_good {ds : List PyData} (h : areAt ds = true) : ∃ as : List At, ds = as.map atD ∧ (∀ a ∈ as, Good a) ∧ 1 ≤ as.length ∧ as.length ≤ 4 := by
  unfold areAt at h
  rw [Bool.and_eq_true, Bool.and_eq_true, decide_eq_true_iff, decide_eq_true_iff, List.all_eq_true] at h
  obtain ⟨⟨h1, h2⟩, h3⟩ := h
  obtain ⟨as, rfl, gs⟩ := good_of h3
  rw [List.length_map] at h1 h2
  exact ⟨as, rfl, gs, h1, h2⟩
theorem alike_at (a b : At) : PySem.W.alike (atD a) (atD b) = true := by simp [atD, PySem.W.alike, PySem.W.alikeAll]
theorem alike_all (as : List At) : PySem.W.AllAlike (as.map atD) := by
  intro d hd d' hd'
  obtain ⟨a, _, rfl⟩ := List.mem_map.mp hd
  obtain ⟨b, _, rfl⟩ := List.mem_map.mp hd'
  exact alike_at a b
theorem sortable_at (as : List At) : PySem.W.Sortable (as.map atD) := .inl fun d hd => by
  obtain ⟨a, _, rfl⟩ := List.mem_map.mp hd
  exact ⟨_, _, rfl⟩
theorem depth_at (a : At) : (atD a).depth ≤ 60 := by simp [atD, PyData.depth, PyData.depthAll]
theorem putF_le (f : PySem.Str) (v : V) : ∀ fs : List (PySem.Str × V), (putF f v fs).length ≤ fs.length + 1
  | [] => Nat.le_refl _
  | (g, u) :: fs => by
    have ih := putF_le f v fs
    unfold putF
    split
    · simp only [List.length_cons]; omega
    · simp only [List.length_cons]; omega
theorem putF_1 (f : PySem.Str) (v : V) : (putF f v []).length < 1000 := by
  have := putF_le f v []
  simp only [List.length_nil] at this
  omega
theorem putF_2 (f g : PySem.Str) (v u : V) : (putF f v (putF g u [])).length < 1000 := by
  have h1 := putF_le f v (putF g u [])
  have h2 := putF_le g u []
  simp only [List.length_nil] at h2
  omega
/-- the fields of a question -/
def qf (p o u : V) : List (PySem.Str × V) := putF "used" u (putF "ordered" o (putF "given" p []))
theorem s_go : ¬ (("given" : PySem.Str) = "ordered") := by decide +kernel
theorem s_gu : ¬ (("given" : PySem.Str) = "used") := by decide +kernel
theorem s_ou : ¬ (("ordered" : PySem.Str) = "used") := by decide +kernel
theorem qf_given (p o u : V) : (qf p o u).lookup ("given" : PySem.Str) = some p := by
  unfold qf
  rw [lookup_putF, if_neg s_gu, lookup_putF, if_neg s_go, lookup_putF, if_pos rfl]
theorem qf_ordered (p o u : V) : (qf p o u).lookup ("ordered" : PySem.Str) = some o := by
  unfold qf
  rw [lookup_putF, if_neg s_ou, lookup_putF, if_pos rfl]
theorem qf_used (p o u : V) : (qf p o u).lookup ("used" : PySem.Str) = some u := by
  unfold qf
  rw [lookup_putF, if_pos rfl]
theorem qf_no (p o u : V) {m : PySem.Str} (h1 : ¬ m = "given") (h2 : ¬ m = "ordered") (h3 : ¬ m = "used") : (qf p o u).lookup m = none := by
  unfold qf
  rw [lookup_putF, if_neg h3, lookup_putF, if_neg h2, lookup_putF, if_neg h1]
  rfl
/-- what the top has written of the class Question (at C) and of NoAtoms (at N) -/
structure QT (K : PySem.W.Frag) (mg : PySem.Str → Option Value) (C N : Addr) : Prop where
  cl : Cls K C
  nG : NoAttr K C "given"
  nO : NoAttr K C "ordered"
  nU : NoAttr K C "used"
  gN : mg "NoAtoms" = some (.ref N)
  xN : PySem.W.excIn K N [.type "ValueError", .type "Exception", .type "BaseException", .type "object"] "ValueError.__new__" = true
  kN : PySem.W.keepIn K (.ref N) = true
  bN : PySem.W.subIn K (.ref N) (.type "BaseException") = some true
  tN : PySem.W.typeIn K (.ref N) = some (.type "type")
abbrev cQ : Stmt := top 41
abbrev s_init : Stmt := inClass cQ 0
/-- a question at x whose atoms stand in the tuple at p -/
structure IsQ (H : Hp) (C x dx p : Addr) (as : List At) : Prop where
  obj : ∃ (o u : Addr) (ns : List Int), H x = some (.ins C dx (qf (.ref p) (.ref o) (.ref u))) ∧ FzT H u (ns.map V.int) ∧ ns.Pairwise (· < ·) ∧ (∀ k : Int, k ∈ ns ↔ k ∈ vars as) ∧
    ∃ bs : List (V × PyData), bs.map Prod.snd = as.map atD ∧ H p = some (.tup (bs.map Prod.fst)) ∧ H o = some (.tup ((sortD bs).map Prod.fst)) ∧ ∀ b ∈ bs, Rp H b.1 b.2
theorem rp_zip {H : Hp} : ∀ {xs : List V} {ds : List PyData}, RpA H xs ds → ∃ bs : List (V × PyData), bs.map Prod.fst = xs ∧ bs.map Prod.snd = ds ∧ ∀ b ∈ bs, Rp H b.1 b.2
  | _, _, .nil => ⟨[], rfl, rfl, fun b h => by cases h⟩
  | _, _, .cons (v := v) (d := d) h r => by
    obtain ⟨bs, e1, e2, e3⟩ := rp_zip r
    refine ⟨(v, d) :: bs, by rw [List.map_cons, e1], by rw [List.map_cons, e2], fun b hb => ?_⟩
    rcases List.mem_cons.mp hb with z | z
    · rw [z]
      exact h
    · exact e3 b z
theorem zip_rp {H : Hp} : ∀ {bs : List (V × PyData)}, (∀ b ∈ bs, Rp H b.1 b.2) → RpA H (bs.map Prod.fst) (bs.map Prod.snd)
  | [], _ => .nil
  | b :: bs, h => .cons (h b (.head _)) (zip_rp fun c hc => h c (.tail _ hc))
def spInit (C N : Addr) : Sp := fun vs H Q E => ∃ (x dx p : Addr) (ds : List PyData), vs = [.ref x, .ref p] ∧ H x = some (.ins C dx []) ∧ Rp H (.ref p) (.tuple ds) ∧ ds.length ≤ 30 ∧
  (areAt ds = false → ∀ H', Same H H' → E (.ref N) none H') ∧
  (∀ as : List At, ds = as.map atD → (∀ a ∈ as, Good a) → areAt ds = true → ∀ H', (∀ b o, b ≠ x → H b = some o → H' b = some o) → IsQ H' C x dx p as → Q .non H')
theorem sc_init : FnScope ["self", "atoms"] ["self", "atoms"] (defScope s_init) := ⟨rfl, rfl, rfl, by decide +kernel, rfl, by decide +kernel, by decide +kernel⟩
def spInitR (C N : Addr) : Sp := fun vs H Q E => ∃ ws rest : List V, vs = ws ++ rest ∧ ws.length = ["self"].length ∧ rest.length ≤ sizeLine ∧ ∀ p, H p = none → spInit C N (ws ++ [V.ref p]) (upd H p (.tup rest)) Q E
section
variable {P : Program} {w : World} {K : PySem.W.Frag} {mg : PySem.Str → Option Value} {base : Heap}
theorem ok_init {f C N fA fV : Addr} {fd fdA fdV : FuncData} (F : FnM K "__init__" "Question.__init__" s_init f fd) (T : Tx K mg) (TQ : QT K mg C N)
    (GA : FnOk P w K mg base CX0 3 fA fdA ["things"] spAre) (bA : Binds K fdA ["things"] []) (kA : PySem.W.keepIn K (.ref fA) = true) (gA : mg "are_atoms" = some (.ref fA))
    (GV : FnOk P w K mg base CX0 1 fV fdV ["atoms"] spVars) (bV : Binds K fdV ["atoms"] []) (kV : PySem.W.keepIn K (.ref fV) = true) (gV : mg "variables_of" = some (.ref fV)) :
    FnR P w K mg base (L2.CX P w) 4 f (spInitR C N) := by
  obtain ⟨oc, od, dV, kV', doc, pm, an, cdv, ct, osl, rfl, lk, hcd, hdfl, _⟩ := F.ex
  have ed : dV = .none := by
    rcases hdfl with ⟨_, e⟩ | ⟨h, _⟩
    · exact e
    · exact absurd rfl h
  subst ed
  refine StX.fn_star (ps := ["self"]) (pv := "atoms") lk hcd sc_init StX.cxUp (StX.bind_star1 (p1 := "self") (pv := "atoms") (B := fun us => bindArgs (PySem.W.fnOf "__init__" "Question.__init__" (defArgs s_init) (defBody s_init) (defScope s_init) .none kV' doc pm an cdv ct) ⟨us, []⟩) (fun a => by rfl) (fun a r rs => by rfl)) (fun A outer s H vs Q E hr h => ?_)
  obtain ⟨x, dx, p, ds, rfl, hx, rp, hz, kE, kQ⟩ := h
  have hr1 : Room 1 _ := hr.mono (by decide)
  refine ⟨_, pss_cons (ps_if (pt_not (pt_val (pe_call GA hr rfl gA kA bA .nil pass0 (pa_cons (pv 1) pa_nil))))
      (pss_one (ps_raise rfl (takes_of rfl rfl rfl rfl) (pmk_own PySem.F.excBase_ValueError TQ.xN TQ.gN TQ.kN (raises_own TQ.bN TQ.tN) rfl))) pss_nil)
    (pss_cons (ps_fld (pv 0) (pv 1) rfl)
    (pss_cons (ps_fld (pv 0) (pe_callTy call_tuple_of (by rfl) T.tup bTup (pa_cons (pe_callB (cr_sortD T.sm hr) (by rfl) T.sorted bSorted (pa_cons (pv 1) pa_nil)) pa_nil)) rfl)
    (pss_one (ps_fld (pv 0) (pe_call GV hr1 rfl gV kV bV .nil pass0 (pa_cons (pv 1) pa_nil)) rfl)))), ?_⟩
  refine ⟨_, rfl, _, _, ds, rfl, rp, .inl rfl, by omega, fun H1 s1 => ⟨_, rfl, ?_⟩⟩
  cases hA : areAt ds with
  | false => exact iteT (kE hA H1 s1)
  | true =>
    refine iteF ?_
    obtain ⟨as, rfl, gs, l1, l4⟩ := are_good hA
    cases rp with
    | @tup _ xs _ hp rx =>
      have hx1 := s1 _ _ hx
      have hp1 := s1 _ _ hp
      have nxp : x ≠ p := ne_of hx1 hp1 (by intro z; cases z)
      refine ⟨_, rfl, _, rfl, x, C, dx, [], rfl, hx1, TQ.cl, TQ.nG, by decide, ?_⟩
      obtain ⟨bs, e1, e2, e3⟩ := rp_zip (rx.mono s1)
      have keep : ∀ {H2 : Hp} {o : HO} {b : V × PyData}, Rp H2 b.1 b.2 → b ∈ bs → (∃ dx fs, H2 x = some (.ins C dx fs)) → Rp (upd H2 x o) b.1 b.2 := fun {H2 o b} rb hb hi => by
        have m : b.2 ∈ as.map atD := by
          rw [← e2]
          exact List.mem_map.mpr ⟨b, hb, rfl⟩
        obtain ⟨t, _, et⟩ := List.mem_map.mp m
        rw [← et] at rb ⊢
        obtain ⟨q, eq, hq⟩ := at_of rb
        rw [eq]
        obtain ⟨dx', fs', hi⟩ := hi
        have nqx : q ≠ x := ne_of hq hi (by intro z; cases z)
        exact .tup (by rw [upd_ne nqx]; exact hq) (.cons (.str _) (.cons (.int _) (.cons (.int _) .nil)))
      -- self.ordered = tuple(sorted(atoms))
      have hpx : (upd H1 x (.ins C dx (putF "given" (.ref p) []))) p = some (.tup (bs.map Prod.fst)) := by
        rw [upd_ne nxp.symm, e1]
        exact hp1
      refine ⟨_, rfl, p, bs, rfl, .inr hpx, fun b hb => keep (e3 b hb) hb ⟨_, _, hx1⟩, by rw [e2]; exact alike_all as, by rw [e2]; exact sortable_at as, fun b hb => ?_, ?_, fun l hl => ?_⟩
      · have m : b.2 ∈ as.map atD := by
          rw [← e2]
          exact List.mem_map.mpr ⟨b, hb, rfl⟩
        obtain ⟨t, _, et⟩ := List.mem_map.mp m
        rw [← et]
        exact depth_at t
      · have lb : bs.length = as.length := by
          have z := congrArg List.length e2
          rw [List.length_map, List.length_map] at z
          exact z
        rw [lb]
        exact Nat.le_trans l4 (by decide)
      refine ⟨l, _, rfl, .inl ⟨.inl (.inl upd_same), fun o ho => ?_⟩⟩
      have nol : o ≠ l := fun z => by
        rw [z, upd_same] at ho
        cases ho
      have hoo : (upd H1 x (.ins C dx (putF "given" (.ref p) []))) o = none := by
        rw [upd_ne nol] at ho
        exact ho
      have nxl : x ≠ l := fun z => by
        rw [← z, upd_same] at hl
        cases hl
      have nxo : x ≠ o := fun z => by
        rw [← z, upd_same] at hoo
        cases hoo
      have npl : p ≠ l := ne_of_none hpx hl
      have npo : p ≠ o := ne_of_none hpx hoo
      generalize hH2 : upd (upd (upd H1 x (.ins C dx (putF "given" (.ref p) []))) l (.lst ((sortD bs).map Prod.fst))) o (.tup ((sortD bs).map Prod.fst)) = H2
      have x2 : H2 x = some (.ins C dx (putF "given" (.ref p) [])) := by
        rw [← hH2, upd_ne nxo, upd_ne nxl, upd_same]
      have p2 : H2 p = some (.tup (bs.map Prod.fst)) := by
        rw [← hH2, upd_ne npo, upd_ne npl]
        exact hpx
      have o2 : H2 o = some (.tup ((sortD bs).map Prod.fst)) := by
        rw [← hH2, upd_same]
      have s12 : ∀ b ob, b ≠ x → H1 b = some ob → H2 b = some ob := fun b ob hb e => by
        have z : (upd H1 x (.ins C dx (putF "given" (.ref p) []))) b = some ob := by
          rw [upd_ne hb]
          exact e
        rw [← hH2, upd_ne (ne_of_none z hoo), upd_ne (ne_of_none z hl)]
        exact z
      have r2 : ∀ b ∈ bs, Rp H2 b.1 b.2 := fun b hb => by
        have z := keep (o := .ins C dx (putF "given" (.ref p) [])) (e3 b hb) hb ⟨_, _, hx1⟩
        rw [← hH2]
        exact (z.mono (same_new hl)).mono (same_new ho)
      refine ⟨_, rfl, x, C, dx, _, rfl, x2, TQ.cl, TQ.nO, putF_1 _ _, ?_⟩
      have nox : o ≠ x := nxo.symm
      -- self.used = variables_of(atoms)
      have rp3 : Rp (upd H2 x (.ins C dx (putF "ordered" (.ref o) (putF "given" (.ref p) [])))) (.ref p) (.tuple (as.map atD)) := by
        refine .tup (by rw [upd_ne nxp.symm]; exact p2) ?_
        rw [← e2]
        exact zip_rp fun b hb => keep (r2 b hb) hb ⟨_, _, x2⟩
      refine ⟨_, rfl, _, _, as, rfl, rp3, .inl rfl, by omega, fun u ns H4 hu s4 h4 hs hk => ?_⟩
      have x4 := s4 _ _ (upd_same (H := H2) (a := x) (o := .ins C dx (putF "ordered" (.ref o) (putF "given" (.ref p) []))))
      refine ⟨_, rfl, x, C, dx, _, rfl, x4, TQ.cl, TQ.nU, putF_2 _ _ _ _, ?_⟩
      have nux : u ≠ x := fun z => by
        rw [z, upd_same] at hu
        cases hu
      have r4 : ∀ b ∈ bs, Rp H4 b.1 b.2 := fun b hb => (keep (r2 b hb) hb ⟨_, _, x2⟩).mono s4
      refine kQ as rfl gs hA _ (fun b ob hb e => ?_) ⟨o, u, ns, upd_same, ?_, hs, hk, bs, e2, ?_, ?_, fun b hb => keep (r4 b hb) hb ⟨_, _, x4⟩⟩
      · rw [upd_ne hb]
        refine s4 b ob ?_
        rw [upd_ne hb]
        exact s12 b ob hb (s1 b ob e)
      · exact h4.put nux
      · rw [upd_ne nxp.symm]
        exact s4 p _ (by rw [upd_ne nxp.symm]; exact p2)
      · rw [upd_ne nox]
        exact s4 o _ (by rw [upd_ne nox]; exact o2)
end
end Q

set_option maxHeartbeats 4000000
namespace Q
open PySem PySem.Spec PyProof.Rows L2 Ca
/-! ### Question.atoms, __len__, text -/
abbrev s_atoms : Stmt := inClass cQ 1
abbrev s_len : Stmt := inClass cQ 4
abbrev s_qtext : Stmt := inClass cQ 11
theorem IsQ.mono {H H' : Hp} {C x dx p : Addr} {as : List At} (s : Same H H') (h : IsQ H C x dx p as) : IsQ H' C x dx p as := by
  obtain ⟨o, u, ns, h1, h2, h3, h4, bs, e1, e2, e3, e4⟩ := h.obj
  exact ⟨o, u, ns, s _ _ h1, h2.mono s, h3, h4, bs, e1, s _ _ e2, s _ _ e3, fun b hb => (e4 b hb).mono s⟩
theorem IsQ.atoms {H : Hp} {C x dx p : Addr} {as : List At} (h : IsQ H C x dx p as) : Rp H (.ref p) (.tuple (as.map atD)) := by
  obtain ⟨o, u, ns, h1, h2, h3, h4, bs, e1, e2, e3, e4⟩ := h.obj
  rw [← e1]
  exact .tup e2 (zip_rp e4)
theorem sc_atoms : FnScope ["self"] ["self"] (defScope s_atoms) := ⟨rfl, rfl, rfl, by decide +kernel, rfl, by decide +kernel, by decide +kernel⟩
theorem sc_len : FnScope ["self"] ["self"] (defScope s_len) := ⟨rfl, rfl, rfl, by decide +kernel, rfl, by decide +kernel, by decide +kernel⟩
theorem sc_qtext : FnScope ["self"] ["self"] (defScope s_qtext) := ⟨rfl, rfl, rfl, by decide +kernel, rfl, by decide +kernel, by decide +kernel⟩
def spAtoms (C : Addr) : Sp := fun vs H Q _ => ∃ (x dx p : Addr) (as : List At), vs = [.ref x] ∧ IsQ H C x dx p as ∧ Q (.ref p) H
def spLen (C : Addr) : Sp := fun vs H Q _ => ∃ (x dx p : Addr) (as : List At), vs = [.ref x] ∧ IsQ H C x dx p as ∧ Q (.int as.length) H
def spQText (C : Addr) : Sp := fun vs H Q _ => ∃ (x dx p : Addr) (as : List At), vs = [.ref x] ∧ IsQ H C x dx p as ∧ as.length ≤ 30 ∧ (∀ a ∈ as, Good a) ∧ ∀ H', Same H H' → Q (.str (txt as)) H'
section
variable {P : Program} {w : World} {K : PySem.W.Frag} {mg : PySem.Str → Option Value} {base : Heap}
theorem ok_atoms {f C N : Addr} {fd : FuncData} (F : FnM K "atoms" "Question.atoms" s_atoms f fd) (TQ : QT K mg C N) : FnOk P w K mg base CX0 1 f fd ["self"] (spAtoms C) := by
  refine F.ok sc_atoms (fun vs H Q E h => ?_) (fun cdv A outer s H vs Q E hr h => ?_)
  · obtain ⟨x, dx, p, as, rfl, _⟩ := h
    rfl
  · obtain ⟨x, dx, p, as, rfl, hq, q⟩ := h
    obtain ⟨o, u, ns, h1, _⟩ := hq.obj
    exact ⟨_, PSs.nox (pss_one (ps_ret (pe_fld (pv 0) rfl))), _, rfl, x, C, dx, _, _, rfl, h1, TQ.cl, TQ.nG, qf_given _ _ _, q⟩
theorem ok_len {f C N : Addr} {fd : FuncData} (F : FnM K "__len__" "Question.__len__" s_len f fd) (TQ : QT K mg C N) (T : Tx K mg) : FnOk P w K mg base CX0 1 f fd ["self"] (spLen C) := by
  refine F.ok sc_len (fun vs H Q E h => ?_) (fun cdv A outer s H vs Q E hr h => ?_)
  · obtain ⟨x, dx, p, as, rfl, _⟩ := h
    rfl
  · obtain ⟨x, dx, p, as, rfl, hq, q⟩ := h
    obtain ⟨o, u, ns, h1, _, _, _, bs, e1, e2, _⟩ := hq.obj
    refine ⟨_, PSs.nox (pss_one (ps_ret (pe_callB call_len_seq (by rfl) T.len bLen (pa_cons (pe_fld (pv 0) rfl) pa_nil)))), ?_⟩
    refine ⟨_, rfl, x, C, dx, _, _, rfl, h1, TQ.cl, TQ.nG, qf_given _ _ _, p, _, rfl, .inr (.inl (.inl e2)), ?_⟩
    have z : (bs.map Prod.fst).length = as.length := by
      have z := congrArg List.length e1
      rw [List.length_map, List.length_map] at z
      rw [List.length_map, z]
    rw [z]
    exact q
theorem ok_qtext {f C N fT : Addr} {fd fdT : FuncData} (F : FnM K "text" "Question.text" s_qtext f fd) (TQ : QT K mg C N) (GT : FnOk P w K mg base CX0 1 fT fdT ["atoms"] spText) (bT : Binds K fdT ["atoms"] [])
    (kT : PySem.W.keepIn K (.ref fT) = true) (gT : mg "text_of_atoms" = some (.ref fT)) : FnOk P w K mg base CX0 2 f fd ["self"] (spQText C) := by
  refine F.ok sc_qtext (fun vs H Q E h => ?_) (fun cdv A outer s H vs Q E hr h => ?_)
  · obtain ⟨x, dx, p, as, rfl, _⟩ := h
    rfl
  · obtain ⟨x, dx, p, as, rfl, hq, hz, hg, q⟩ := h
    obtain ⟨o, u, ns, h1, _⟩ := hq.obj
    refine ⟨_, PSs.nox (pss_one (ps_ret (pe_call GT hr rfl gT kT bT .nil pass0 (pa_cons (pe_fld (pv 0) rfl) pa_nil)))), ?_⟩
    exact ⟨_, rfl, x, C, dx, _, _, rfl, h1, TQ.cl, TQ.nG, qf_given _ _ _, _, _, as, rfl, hq.atoms, .inl rfl, hz, hg, q⟩
end
/-! ### making a question by a call -/
section
variable {X : Cx} {CX : CXT} {k : Nat} {f C : Addr} {sp : Sp} {E : XK} {x : PySem.Str} {p pos : Pos}
theorem pe_makeR0 (M : Mk X.K C f) (F : FnR X.prog X.w X.K X.mg X.base CX k f sp) (hr : Room (k + 1) X.A) (hg : Gl X x) (hm : X.mg x = some (.ref C)) (hx : Passes CX X E)
    (hdb : (x == ("__debug__" : PySem.Str)) = false := by decide) : PE X (.Call (.Name x p) [] [] pos) (StX.tMakeR C sp E tNil) :=
  ⟨fun pins s σ H Q I h => wpAny_Call_Name_kw (ld_glob I hg hm (PySem.W.callWith_K0 I.kIn M.kp (StX.run_makeR M F hr hx I .nil h)) hdb)⟩
/-- what is asked where Question(..) is called with the values vs, which read as ds -/
theorem make_q {N : Addr} {H : Hp} {vs : List V} {ds : List PyData} {Q : VK} {E : XK} (r : RpA H vs ds) (hz : ds.length ≤ 30)
    (kE : areAt ds = false → ∀ H', Same H H' → E (.ref N) none H')
    (kQ : ∀ as : List At, ds = as.map atD → (∀ a ∈ as, Good a) → areAt ds = true → ∀ x dx p H', H x = none → Same H H' → IsQ H' C x dx p as → Q (.ref x) H') :
    ∀ x dx, H x = none → H dx = none → dx ≠ x → spInitR C N (.ref x :: vs) (upd (upd H dx (.own x)) x (.ins C dx [])) (fun v H2 => v = .non ∧ Q (.ref x) H2) E := by
  intro x dx nx nd ne
  have l := r.length
  have sz : vs.length ≤ sizeLine := by
    rw [l]
    exact Nat.le_trans hz (by decide)
  have s0 : Same H (upd (upd H dx (.own x)) x (.ins C dx [])) := fun b o e => by
    rw [upd_ne (ne_of_none e nx), upd_ne (ne_of_none e nd)]
    exact e
  refine ⟨[.ref x], vs, rfl, rfl, sz, fun p hp => ?_⟩
  have npx : p ≠ x := fun z => by
    rw [z, upd_same] at hp
    cases hp
  have s1 : Same H (upd (upd (upd H dx (.own x)) x (.ins C dx [])) p (.tup vs)) := s0.trans (same_new hp)
  refine ⟨x, dx, p, ds, rfl, by rw [upd_ne npx.symm, upd_same], .tup upd_same (r.mono s1), hz, fun h H' s => kE h H' (s1.trans s), fun as e g h H' kp hq => ⟨rfl, kQ as e g h x dx p H' nx (fun b o eb => ?_) hq⟩⟩
  exact kp b o (ne_of_none eb nx) (s1 b o eb)
end
end Q

set_option maxHeartbeats 4000000
namespace Q
open PySem PySem.Spec PyProof.Rows L2 Ca
/-! ### a star call of a class that a name holds -/
section
variable {X : Cx} {CX : CXT} {k i : Nat} {f C : Addr} {sp : Sp} {E : XK} {x : PySem.Str} {e : Expr} {te : TE} {p sq pos : Pos}
/-- cls(*e), the i-th slot holds the class at C -/
def tClsStar (K : PySem.W.Frag) (C : Addr) (i : Nat) (sp : Sp) (E : XK) (te : TE) : TE := fun σ H Q => σ[i]? = some (some (.ref C)) ∧ te σ H fun y H1 => ∃ a xs, y = V.ref a ∧ (SqT K H1 a xs ∨ SqL K H1 a xs) ∧
  ∀ x dx, H1 x = none → H1 dx = none → dx ≠ x → sp (V.ref x :: xs) (upd (upd H1 dx (.own x)) x (.ins C dx [])) (fun v H2 => v = .non ∧ Q (.ref x) H2) E
theorem pe_clsStar (M : Mk X.K C f) (F : FnR X.prog X.w X.K X.mg X.base CX k f sp) (hr : Room (k + 1) X.A) (hN : X.N[i]? = some x) (hv : Vis X.env.scope x) (hx : Passes CX X E) (he : PE X e te)
    (hdb : (x == ("__debug__" : PySem.Str)) = false := by decide) (hcd : (x == ("__classdict__" : PySem.Str)) = false := by decide) (hst : starEach [.Starred e sq] X.env = [(true, eval e X.env)] := by rfl) :
    PE X (.Call (.Name x p) [.Starred e sq] [] pos) (tClsStar X.K C i sp E te) := by
  refine ⟨fun pins s σ H Q I h => ?_⟩
  obtain ⟨h0, h⟩ := h
  refine wpAny_Call_Name_kw (thn ((pe_var (pos := p) hN hv hdb hcd).run pins s σ H (fun v H1 => v = .ref C ∧ H1 = H) I ⟨.ref C, h0, rfl, rfl⟩) fun u s1 ⟨v, H1, I1, r1, e1, e2⟩ => ?_)
  subst e1 e2
  obtain rfl : u = Value.ref C := r1
  refine PySem.W.callWith_S (h₀ := X.base) I1.ok.mod.kin M.kp (thn (he.run pins s1 σ _ _ I1 h) fun v s2 ⟨y, H2, I2, ry, a, xs, ey, hxs, q⟩ => ?_) hst
  subst ey
  obtain rfl : v = Value.ref a := ry
  exact StX.star_any I2 hxs fun us s3 I3 rv => ⟨I3.kIn, StX.run_makeR M F hr hx I3 rv q⟩
/-- C(*e), C a class of the module -/
def tGlbStar (K : PySem.W.Frag) (C : Addr) (sp : Sp) (E : XK) (te : TE) : TE := fun σ H Q => te σ H fun y H1 => ∃ a xs, y = V.ref a ∧ (SqT K H1 a xs ∨ SqL K H1 a xs) ∧
  ∀ x dx, H1 x = none → H1 dx = none → dx ≠ x → sp (V.ref x :: xs) (upd (upd H1 dx (.own x)) x (.ins C dx [])) (fun v H2 => v = .non ∧ Q (.ref x) H2) E
theorem pe_glbStar (M : Mk X.K C f) (F : FnR X.prog X.w X.K X.mg X.base CX k f sp) (hr : Room (k + 1) X.A) (hg : Gl X x) (hm : X.mg x = some (.ref C)) (hx : Passes CX X E) (he : PE X e te)
    (hdb : (x == ("__debug__" : PySem.Str)) = false := by decide) (hst : starEach [.Starred e sq] X.env = [(true, eval e X.env)] := by rfl) :
    PE X (.Call (.Name x p) [.Starred e sq] [] pos) (tGlbStar X.K C sp E te) := by
  refine ⟨fun pins s σ H Q I h => wpAny_Call_Name_kw (ld_glob I hg hm ?_ hdb)⟩
  refine PySem.W.callWith_S (h₀ := X.base) I.ok.mod.kin M.kp (thn (he.run pins s σ _ _ I h) fun v s2 ⟨y, H2, I2, ry, a, xs, ey, hxs, q⟩ => ?_) hst
  subst ey
  obtain rfl : v = Value.ref a := ry
  exact StX.star_any I2 hxs fun us s3 I3 rv => ⟨I3.kIn, StX.run_makeR M F hr hx I3 rv q⟩
end
/-! ### number_of_word, atom_of_word: of what text() writes -/
abbrev s_now : Stmt := top 6
abbrev s_aow : Stmt := top 39
abbrev s_read : Stmt := inClass cQ 12
theorem sc_now : FnScope ["word"] ["word"] (defScope s_now) := ⟨rfl, rfl, rfl, by decide +kernel, rfl, by decide +kernel, by decide +kernel⟩
theorem sc_aow : FnScope ["word"] ["word"] (defScope s_aow) := ⟨rfl, rfl, rfl, by decide +kernel, rfl, by decide +kernel, by decide +kernel⟩
theorem sc_read : FnScope ["cls", "text", "atoms", "word"] ["cls", "text"] (defScope s_read) := ⟨rfl, rfl, rfl, by decide +kernel, rfl, by decide +kernel, by decide +kernel⟩
abbrev dg (i : Int) : PySem.Str := PySem.Str.ofString (toString i)
def spNow : Sp := fun vs H Q _ => ∃ i : Int, vs = [.str (dg i)] ∧ 0 ≤ i ∧ i ≤ 9 ∧ Q (.int i) H
def spAow : Sp := fun vs H Q _ => ∃ a : At, vs = [.str (atT a)] ∧ Good a ∧ ∀ p, H p = none → Q (.ref p) (upd H p (.tup [.str a.k, .int a.l, .int a.r]))
theorem dg_facts {i : Int} (h0 : 0 ≤ i) (h9 : i ≤ 9) : (dg i).length = 1 ∧ Txt.isascii (dg i) = true ∧ Txt.isdigit (dg i) = true ∧ PySem.intText? (dg i) = some i := by
  obtain ⟨n, rfl⟩ := Int.eq_ofNat_of_zero_le h0
  have h1 : ∀ n : Nat, n < 10 → (dg ((n : Nat) : Int)).length = 1 ∧ Txt.isascii (dg ((n : Nat) : Int)) = true ∧ Txt.isdigit (dg ((n : Nat) : Int)) = true := by decide +kernel
  have h2 : (TL.numL n).length ≤ 4300 := by
    have e : (TL.numL n).length = (dg ((n : Nat) : Int)).length := by
      rw [← TL.tl_num]
      exact Array.length_toList
    rw [e, (h1 n (by omega)).1]
    decide
  exact ⟨(h1 n (by omega)).1, (h1 n (by omega)).2.1, (h1 n (by omega)).2.2, TL.int_num h2⟩
theorem list1 {x : PySem.Str} (h : x.length = 1) : ∃ c, x.cps.toList = [c] := by
  have e : x.cps.toList.length = 1 := by
    rw [Array.length_toList]
    exact h
  match x.cps.toList, e with
  | [c], _ => exact ⟨c, rfl⟩
theorem cut3 {x y z : PySem.Str} (hx : x.length = 1) (hy : y.length = 1) (hz : z.length = 1) :
    cutS (x ++ y ++ z) none (some 1) = x ∧ cutS (x ++ y ++ z) (some 1) (some 2) = y ∧ cutS (x ++ y ++ z) (some 2) none = z := by
  obtain ⟨a, ha⟩ := list1 hx
  obtain ⟨b, hb⟩ := list1 hy
  obtain ⟨c, hc⟩ := list1 hz
  have l : (x ++ y ++ z).length = 3 := by rw [len_app, len_app, hx, hy, hz]
  have e : (x ++ y ++ z).cps.toList = [a, b, c] := by
    have e1 : (x ++ y ++ z).cps.toList = (x ++ y).cps.toList ++ z.cps.toList := TL.tl_append _ _
    have e2 : (x ++ y).cps.toList = x.cps.toList ++ y.cps.toList := TL.tl_append _ _
    rw [e1, e2, ha, hb, hc]
    rfl
  have back : ∀ (w : PySem.Str) (d : Nat), w.cps.toList = [d] → (⟨[d].toArray⟩ : PySem.Str) = w := fun w d h => by
    cases w with
    | mk cs =>
      have h2 : cs.toList = [d] := h
      rw [← h2]
  refine ⟨?_, ?_, ?_⟩
  · unfold cutS
    rw [l, e]
    exact back x a ha
  · unfold cutS
    rw [l, e]
    exact back y b hb
  · unfold cutS
    rw [l, e]
    exact back z c hc
section
variable {P : Program} {w : World} {K : PySem.W.Frag} {mg : PySem.Str → Option Value} {base : Heap}
theorem ok_now {f : Addr} {fd : FuncData} (F : FnP K "number_of_word" s_now f fd) (T : Tx K mg) (hL : ∃ t, mg "LONGEST_NUMBER" = some (.int 5 t)) : FnOk P w K mg base CX0 1 f fd ["word"] spNow := by
  obtain ⟨tL, gL⟩ := hL
  refine F.ok sc_now (fun vs H Q E h => ?_) (fun cdv A outer s H vs Q E hr h => ?_)
  · obtain ⟨i, rfl, _⟩ := h
    rfl
  · obtain ⟨i, rfl, h0, h9, q⟩ := h
    obtain ⟨l, a1, a2, a3⟩ := dg_facts h0 h9
    refine ⟨_, PSs.nox (pss_cons (ps_if (PW.pt (pw_or (pt_cmpR op_gt (pe_callB call_len_str (by rfl) T.len bLen (pa_cons (pv 0) pa_nil)) (pe_glob (v := .int 5) rfl gL ⟨tL, rfl⟩) (nomark _)) (pw_or (pt_not (pt_val (pe_m0 PySem.F.slot_str_isascii PySem.F.type_str_isascii mt_isascii (pv 0)))) (pw_or1 (pt_not (pt_val (pe_m0 PySem.F.slot_str_isdigit PySem.F.type_str_isdigit mt_isdigit (pv 0)))))))) (pss_one (ps_ret (pe_un un_neg pe_int))) pss_nil)
      (pss_one (ps_ret (pe_callTy call_int_str (by rfl) T.int bInt (pa_cons (pv 0) pa_nil))))), ?_⟩
    refine ⟨_, rfl, _, rfl, by rw [l]; decide, _, 5, rfl, rfl, _, rfl, ?_⟩
    have e : decide ((5 : Int) < ((dg i).length : Nat)) = false := by
      rw [l]
      rfl
    rw [e]
    refine iteF ⟨_, rfl, ⟨_, rfl⟩, _, rfl, rfl, trivial, _, rfl, ?_⟩
    rw [a1]
    refine iteF ⟨_, rfl, ⟨_, rfl⟩, _, rfl, rfl, trivial, _, rfl, ?_⟩
    rw [a2]
    exact iteF ⟨_, rfl, _, i, rfl, a3, by rw [l]; decide, q⟩
theorem ok_aow {f fN : Addr} {fd fdN : FuncData} (F : FnP K "atom_of_word" s_aow f fd) (GN : FnOk P w K mg base CX0 1 fN fdN ["word"] spNow) (bN : Binds K fdN ["word"] []) (kN : PySem.W.keepIn K (.ref fN) = true)
    (gN : mg "number_of_word" = some (.ref fN)) : FnOk P w K mg base CX0 2 f fd ["word"] spAow := by
  refine F.ok sc_aow (fun vs H Q E h => ?_) (fun cdv A outer s H vs Q E hr h => ?_)
  · obtain ⟨a, rfl, _⟩ := h
    rfl
  · obtain ⟨a, rfl, g, q⟩ := h
    have hr1 : Room 1 _ := hr
    refine ⟨_, PSs.nox (pss_one (ps_ret (pe_tup (pa_cons (pe_slice sl_str (pv 0) po_none (po_some pe_int)) (pa_cons (pe_call GN hr1 rfl gN kN bN .nil pass0 (pa_cons (pe_slice sl_str (pv 0) (po_some pe_int) (po_some pe_int)) pa_nil)) (pa_cons (pe_call GN hr1 rfl gN kN bN .nil pass0 (pa_cons (pe_slice sl_str (pv 0) (po_some pe_int) po_none) pa_nil)) pa_nil)))))), ?_⟩
    obtain ⟨c1, c2, c3⟩ := cut3 (kind_len g.k) (dig_len g.l0 g.l9) (dig_len g.r0 g.r9)
    have sz : (atT a).length ≤ sizeLine := by
      rw [atT_len g]
      decide
    refine ⟨_, rfl, 1, rfl, _, rfl, sz, ?_⟩
    refine ⟨_, rfl, 1, rfl, 2, rfl, _, rfl, sz, a.l, by rw [show cutS (atT a) (some 1) (some 2) = dg a.l from c2]; rfl, g.l0, g.l9, ?_⟩
    refine ⟨_, rfl, 2, rfl, _, rfl, sz, a.r, by rw [show cutS (atT a) (some 2) none = dg a.r from c3]; rfl, g.r0, g.r9, ?_⟩
    refine ⟨by show 3 ≤ sizeLine; decide, fun p hp => ?_⟩
    rw [show cutS (atT a) none (some 1) = a.k from c1]
    exact q p hp
/-! ### Question.read, of what text() writes -/
def decW (d : PyData) : Option PyData := match d with
  | .str w => some (.tuple [.str (cutS w none (some 1)), .int ((PySem.intText? (cutS w (some 1) (some 2))).getD 0), .int ((PySem.intText? (cutS w (some 2) none)).getD 0)])
  | _ => none
theorem decW_at {a : At} (g : Good a) : decW (.str (atT a)) = some (atD a) := by
  obtain ⟨c1, c2, c3⟩ := cut3 (kind_len g.k) (dig_len g.l0 g.l9) (dig_len g.r0 g.r9)
  unfold decW
  show some (PyData.tuple [.str (cutS (atT a) none (some 1)), .int ((PySem.intText? (cutS (atT a) (some 1) (some 2))).getD 0), .int ((PySem.intText? (cutS (atT a) (some 2) none)).getD 0)]) = _
  rw [show cutS (atT a) none (some 1) = a.k from c1, show cutS (atT a) (some 1) (some 2) = dg a.l from c2, show cutS (atT a) (some 2) none = dg a.r from c3, (dg_facts g.l0 g.l9).2.2.2, (dg_facts g.r0 g.r9).2.2.2]
  rfl
theorem decW_map {as : List At} (h : ∀ a ∈ as, Good a) : ((as.map atT).map PyData.str).filterMap decW = as.map atD := by
  induction as with
  | nil => rfl
  | cons a as ih =>
    rw [List.map_cons, List.map_cons, List.filterMap_cons, decW_at (h a (.head _)), ih fun b hb => h b (.tail _ hb)]
    rfl
theorem no_space {a : At} (g : Good a) : (32 : Nat) ∉ (atT a).cps.toList := by
  have d : ∀ n : Nat, n < 10 → (32 : Nat) ∉ (dg ((n : Nat) : Int)).cps.toList := by decide +kernel
  have dd : ∀ {i : Int}, 0 ≤ i → i ≤ 9 → (32 : Nat) ∉ (dg i).cps.toList := fun {i} h0 h9 => by
    obtain ⟨n, rfl⟩ := Int.eq_ofNat_of_zero_le h0
    exact d n (by omega)
  have e1 : (atT a).cps.toList = (a.k ++ dg a.l).cps.toList ++ (dg a.r).cps.toList := TL.tl_append _ _
  have e2 : (a.k ++ dg a.l).cps.toList = a.k.cps.toList ++ (dg a.l).cps.toList := TL.tl_append _ _
  rw [e1, e2]
  intro z
  rcases List.mem_append.mp z with z | z
  · rcases List.mem_append.mp z with z | z
    · have k := g.k
      unfold kindOk inV at k
      rw [List.any_eq_true] at k
      obtain ⟨y, hy, e⟩ := k
      have hk : a.k = "A" ∨ a.k = "B" ∨ a.k = "C" := by
        rcases List.mem_cons.mp hy with q | hy
        · subst q
          exact .inl (Eq.symm (by simpa [eqV] using e))
        · rcases List.mem_cons.mp hy with q | hy
          · subst q
            exact .inr (.inl (Eq.symm (by simpa [eqV] using e)))
          · rcases List.mem_cons.mp hy with q | hy
            · subst q
              exact .inr (.inr (Eq.symm (by simpa [eqV] using e)))
            · cases hy
      rcases hk with q | q | q <;> rw [q] at z <;> revert z <;> decide +kernel
    · exact dd g.l0 g.l9 z
  · exact dd g.r0 g.r9 z
theorem split_txt {as : List At} (h : ∀ a ∈ as, Good a) (hn : as ≠ []) : Txt.split (txt as) " " = as.map atT := by
  unfold txt
  refine TL.split_join (y := " ") (s := 32) (S := []) (by decide +kernel) (by decide +kernel) (fun e => hn (List.map_eq_nil_iff.mp e)) fun p hp => ?_
  obtain ⟨a, ha, rfl⟩ := List.mem_map.mp hp
  exact no_space (h a ha)
theorem are_of {as : List At} (h : ∀ a ∈ as, Good a) (l1 : 1 ≤ as.length) (l4 : as.length ≤ 4) : areAt (as.map atD) = true := by
  unfold areAt
  rw [Bool.and_eq_true, Bool.and_eq_true, decide_eq_true_iff, decide_eq_true_iff, List.length_map, List.all_eq_true]
  refine ⟨⟨l1, l4⟩, fun d hd => ?_⟩
  obtain ⟨a, ha, rfl⟩ := List.mem_map.mp hd
  have g := h a ha
  show (kindOk a.k && (decide (0 ≤ a.l) && decide (a.l ≤ 9) && (decide (0 ≤ a.r) && decide (a.r ≤ 9)))) = true
  rw [g.k, decide_eq_true g.l0, decide_eq_true g.l9, decide_eq_true g.r0, decide_eq_true g.r9]
  rfl
theorem txt_len2 {as : List At} (h : ∀ a ∈ as, Good a) : (txt as).length ≤ 4 * as.length := by
  have z := StrLaws.join_length_le " " (as.map atT)
  rw [sum_len h, List.length_map] at z
  have e1 : (PySem.Str.ofString " ").length = 1 := by decide +kernel
  rw [e1] at z
  unfold txt
  rw [TL.join_eq]
  omega
theorem rpa_strs {H : Hp} : ∀ ws : List PySem.Str, RpA H (ws.map V.str) (ws.map PyData.str)
  | [] => .nil
  | x :: ws => .cons (.str _) (rpa_strs ws)
theorem atD_inj : ∀ {bs as : List At}, bs.map atD = as.map atD → bs = as
  | [], [], _ => rfl
  | [], _ :: _, h => by cases h
  | _ :: _, [], h => by cases h
  | ⟨k, l, r⟩ :: bs, ⟨k', l', r'⟩ :: as, h => by
    rw [List.map_cons, List.map_cons, List.cons.injEq] at h
    obtain ⟨h1, h2⟩ := h
    have h3 : PyData.tuple [.str k, .int l, .int r] = PyData.tuple [.str k', .int l', .int r'] := h1
    injection h3 with h3
    simp only [List.cons.injEq, PyData.str.injEq, PyData.int.injEq] at h3
    obtain ⟨rfl, rfl, rfl, _⟩ := h3
    rw [atD_inj h2]
def spRead (C : Addr) : Sp := fun vs H Q _ => ∃ as : List At, vs = [.ref C, .str (txt as)] ∧ (∀ a ∈ as, Good a) ∧ 1 ≤ as.length ∧ as.length ≤ 4 ∧ ∀ x dx p H', H x = none → Same H H' → IsQ H' C x dx p as → Q (.ref x) H'
theorem ok_read {f C N fI fA fR fX : Addr} {fd fdA fdR fdX : FuncData} (F : FnM K "read" "Question.read" s_read f fd) (T : Tx K mg) (M : Mk K C fI) (GI : FnR P w K mg base (L2.CX P w) 4 fI (spInitR C N))
    (GA : FnOk P w K mg base CX0 2 fA fdA ["word"] spAow) (bA : Binds K fdA ["word"] []) (kA : PySem.W.keepIn K (.ref fA) = true) (gA : mg "atom_of_word" = some (.ref fA))
    (GR : FnOk P w K mg base CX0 3 fR fdR ["things"] spAre) (bR : Binds K fdR ["things"] []) (kR : PySem.W.keepIn K (.ref fR) = true) (gR : mg "are_atoms" = some (.ref fR))
    (GX : FnOk P w K mg base CX0 1 fX fdX ["atoms"] spText) (bX : Binds K fdX ["atoms"] []) (kX : PySem.W.keepIn K (.ref fX) = true) (gX : mg "text_of_atoms" = some (.ref fX)) :
    FnOk P w K mg base CX0 6 f fd ["cls", "text"] (spRead C) := by
  refine F.ok sc_read (fun vs H Q E h => ?_) (fun cdv A outer s H vs Q E hr h => ?_)
  · obtain ⟨as, rfl, _⟩ := h
    rfl
  · obtain ⟨as, rfl, gs, l1, l4, q⟩ := h
    have hr1 : Room 1 _ := hr.mono (by decide)
    have hr2 : Room 2 _ := hr.mono (by decide)
    have hr3 : Room 3 _ := hr.mono (by decide)
    refine ⟨_, PSs.nox (pss_cons (ps_if (pt_not (pt_val (pe_callB call_isi (by rfl) T.isi bIsi (pa_cons (pv 1) (pa_cons (pe_bltn (v := .ty "str") (by rfl) T.str bStr rfl) pa_nil))))) pss_never pss_nil)
      (pss_cons (ps_setLc (i := 2) (own := [("word", 3)]) (g := gName 3) (tt := tYes) (by rfl) sc_read.nd rfl rfl (sw_true rfl rfl rfl (by decide +kernel)) (pi_list (pe_split (pv 1) pe_str))
        (blkOk_by (own := [("word", 3)]) (N := ["cls", "text", "atoms", "word"]) (sc := defScope s_read) (by decide +kernel))
        (fun _ _ _ _ _ => pg_name (i := 3) sc_read.nd rfl (Or.inl rfl)) (fun _ _ _ _ _ => pts_nil) (fun _ _ _ _ _ => (pe_call GA hr2 rfl gA kA bA .nil pass0 (pa_cons (pv 3) pa_nil))))
      (pss_cons (ps_if (PW.pt (pw_or (pt_not (pt_val (pe_call GR hr3 rfl gR kR bR .nil pass0 (pa_cons (pv 2) pa_nil)))) (pw_or1 (pt_cmpR op_ne (pe_call GX hr1 rfl gX kX bX .nil pass0 (pa_cons (pv 2) pa_nil)) (pv 1) (nomark _))))) pss_never pss_nil)
      (pss_one (ps_ret (pe_clsStar (i := 0) M GI hr rfl (Or.inl rfl) passL (pv 2))))))), ?_⟩
    have tl := txt_len2 gs
    refine ⟨_, rfl, _, _, _, _, true, rfl, .ty _, .base (.str _), kit_ty (show kitB "str" "str" = some true by decide +kernel), _, rfl, iteF ?_⟩
    refine ⟨_, rfl, ⟨_, rfl⟩, _, _, rfl, rfl, by decide +kernel, Nat.le_trans (show (txt as).length + 2 ≤ 1000 by omega) (by decide), fun u hu => ?_⟩
    rw [split_txt gs (by intro z; rw [z] at l1; simp at l1)]
    refine ⟨u, rfl, ⟨_, .inl (.inl upd_same)⟩, fun D hD => ?_⟩
    have r0 : RpA (upd H u (.lst ((as.map atT).map V.str))) ((as.map atT).map V.str) ((as.map atT).map PyData.str) := rpa_strs _
    have s0 : Same H (upd H u (.lst ((as.map atT).map V.str))) := same_new hu
    refine lcL (F := decW) upd_same r0 (by rw [List.length_map, List.length_map]; omega) hD (fun x d H' Nx hm s1 hn rx c _ => ⟨rfl, ?_⟩) fun H1 acc s1 h1 h2 => ?_
    · obtain ⟨x1, hx1, rfl⟩ := List.mem_map.mp hm
      obtain ⟨a, ha, rfl⟩ := List.mem_map.mp hx1
      have ex := rx.isS rfl
      subst ex
      refine ⟨_, rfl, a, rfl, gs a ha, fun p hp => c _ _ _ (decW_at (gs a ha)) (same_new hp) (.tup ?_ (.cons (.str _) (.cons (.int _) (.cons (.int _) .nil))))⟩
      rw [off_ne (fun e => hn (by rw [← e]; exact hp)), upd_same]
    · rw [show keptD decW ((as.map atT).map PyData.str) = as.map atD from decW_map gs] at h2
      have s2 := s0.trans s1
      have rD : Rp H1 (.ref D) (.list (as.map atD)) := .lst h1 (h2.mono off_same)
      refine ⟨_, rfl, _, _, _, rfl, rD, .inr rfl, by rw [List.length_map]; omega, fun H2 s3 => ?_⟩
      rw [are_of gs l1 l4]
      refine ⟨_, rfl, iteF ⟨_, rfl, _, _, as, rfl, rD.mono s3, .inr rfl, by omega, gs, fun H3 s4 => ⟨_, rfl, rfl, _, rfl, iteNS rfl ?_⟩⟩⟩
      refine ⟨rfl, _, rfl, D, acc, rfl, .inr (.inl (.inl ((s3.trans s4) _ _ h1))), ?_⟩
      refine make_q (N := N) ((h2.mono off_same).mono (s3.trans s4)) (by rw [List.length_map]; omega) (fun z => ?_) fun bs e gb hA x dx p H' nx sx hq => ?_
      · rw [are_of gs l1 l4] at z
        cases z
      · have eb : bs = as := by
          first | exact atD_inj e | exact atD_inj e.symm
        subst eb
        exact q x dx p H' ((s2.trans (s3.trans s4)).free nx) ((s2.trans (s3.trans s4)).trans sx) hq
end
end Q

set_option maxHeartbeats 4000000
namespace Ca
open PySem PySem.Spec PyProof.Rows L2
/-! what an expression gives, in data; S: what may change under way (lists, dicts, sets being made), nothing of which is read as data -/
def offS (S : Addr → Bool) (H : Hp) : Hp := fun a => if S a = true then none else H a
def MutO : HO → Prop
  | .tup _ => False
  | .ins _ _ _ => False
  | .frz _ _ => False
  | _ => True
def Fr (S : Addr → Bool) (H : Hp) : Prop := ∀ a, S a = true → ∃ o, H a = some o ∧ MutO o
section
variable {S : Addr → Bool} {H H' : Hp} {p : Addr} {o : HO}
theorem Fr.mono (f : Fr S H) (s : Same H H') : Fr S H' := fun a h => let ⟨o, e, m⟩ := f a h; ⟨o, s _ _ e, m⟩
theorem offS_mono (s : Same H H') : Same (offS S H) (offS S H') := fun b o e => by
  unfold offS at e ⊢
  split at e
  · cases e
  · rename_i hb
    rw [if_neg hb]
    exact s b o e
theorem offS_same : Same (offS S H) H := fun b o e => by
  unfold offS at e
  split at e
  · cases e
  · exact e
theorem offS_at (h : S p = false) : offS S H p = H p := by
  unfold offS
  rw [h]
  rfl
theorem Fr.new (f : Fr S H) (h : H p = none) : S p = false := by
  cases e : S p with
  | false => rfl
  | true =>
    obtain ⟨o, e2, _⟩ := f p e
    rw [h] at e2
    cases e2
theorem Fr.imm (f : Fr S H) (h : H p = some o) (hm : ¬ MutO o) : S p = false := by
  cases e : S p with
  | false => rfl
  | true =>
    obtain ⟨o', e2, m⟩ := f p e
    rw [h] at e2
    cases e2
    exact absurd m hm
theorem offS_new (f : Fr S H) (h : H p = none) : offS S (upd H p o) p = some o := by
  rw [offS_at (f.new h), upd_same]
theorem fr0 : Fr (fun _ => false) H := fun a h => by cases h
theorem off0 : offS (fun _ => false) H = H := rfl
def addS (S : Addr → Bool) (D : Addr) : Addr → Bool := fun a => S a || decide (a = D)
theorem Fr.add (f : Fr S H) (h : H p = some o) (m : MutO o) : Fr (addS S p) H := fun a ha => by
  unfold addS at ha
  rw [Bool.or_eq_true] at ha
  rcases ha with z | z
  · exact f a z
  · rw [of_decide_eq_true z]
    exact ⟨o, h, m⟩
theorem addS_off : Same (offS (addS S p) H) (offS S H) := fun b o e => by
  unfold offS at e ⊢
  split at e
  · cases e
  · rename_i hb
    have : ¬ S b = true := fun z => hb (by unfold addS; rw [z]; rfl)
    rw [if_neg this]
    exact e
theorem addS_new (h : (offS S H) p = none) (s : Same (offS S H) (offS S H')) : Same (offS S H) (offS (addS S p) H') := fun b o e => by
  have e2 := s b o e
  have nb : b ≠ p := fun z => by rw [z, h] at e; cases e
  unfold offS at e2 ⊢
  split at e2
  · cases e2
  · rename_i hb
    have : ¬ addS S p b = true := fun z => by
      unfold addS at z
      rw [Bool.or_eq_true] at z
      rcases z with z | z
      · exact hb z
      · exact nb (of_decide_eq_true z)
    rw [if_neg this]
    exact e2
theorem addS_upd : Same (offS (addS S p) H) (offS (addS S p) (upd H p o)) := fun b u e => by
  unfold offS at e ⊢
  split at e
  · cases e
  · rename_i hb
    rw [if_neg hb]
    have nb : b ≠ p := fun z => hb (by unfold addS; rw [z]; simp)
    rw [upd_ne nb]
    exact e
end
def EvP (te : TE) (σ : L2.St) (F : Hp) (P : Hp → V → Prop) : Prop := ∀ (S : Addr → Bool) (H1 : Hp), Fr S H1 → Same F (offS S H1) → ∀ Q : VK, (∀ v H2, Same H1 H2 → P (offS S H2) v → Q v H2) → te σ H1 Q
abbrev EvD (te : TE) (σ : L2.St) (F : Hp) (d : PyData) : Prop := EvP te σ F fun H v => Rp H v d
def EvA (ta : TA) (σ : L2.St) (F : Hp) (ds : List PyData) : Prop := ∀ (S : Addr → Bool) (H1 : Hp), Fr S H1 → Same F (offS S H1) → ∀ Q : List V → Hp → Prop, (∀ vs H2, Same H1 H2 → RpA (offS S H2) vs ds → Q vs H2) → ta σ H1 Q
def EvB (tt : TT) (σ : L2.St) (F : Hp) (b : Bool) : Prop := ∀ (S : Addr → Bool) (H1 : Hp), Fr S H1 → Same F (offS S H1) → ∀ Q : Bool → Hp → Prop, (∀ H2, Same H1 H2 → Q b H2) → tt σ H1 Q
def EvO (tl : TO) (σ : L2.St) (F : Hp) (o : Option Int) : Prop := ∀ (S : Addr → Bool) (H1 : Hp), Fr S H1 → Same F (offS S H1) → ∀ Q : Option Int → Hp → Prop, (∀ H2, Same H1 H2 → Q o H2) → tl σ H1 Q
section
variable {K : PySem.W.Frag} {σ : L2.St} {F : Hp} {ta tb tc te : TE} {tas : TA} {tt tu : TT} {d e : PyData} {ds es : List PyData} {P P2 : Hp → V → Prop}
theorem EvP.weak (h : EvP te σ F P) (hw : ∀ H v, P H v → P2 H v) : EvP te σ F P2 := fun S H1 f s Q q => h S H1 f s Q fun v H2 s2 p => q v H2 s2 (hw _ _ p)
theorem EvP.at {F2 : Hp} (h : EvP te σ F P) (s : Same F F2) : EvP te σ F2 P := fun S H1 f s1 Q q => h S H1 f (s.trans s1) Q q
theorem EvB.at {F2 : Hp} {b : Bool} (h : EvB tt σ F b) (s : Same F F2) : EvB tt σ F2 b := fun S H1 f s1 Q q => h S H1 f (s.trans s1) Q q
/-! names and constants -/
theorem e_varP {i : Nat} {v : V} (h : σ[i]? = some (some v)) (r : ∀ H, Same F H → P H v) : EvP (tVar i) σ F P := fun S H1 f s Q q => ⟨v, h, q v H1 (Same.refl _) (r _ s)⟩
theorem e_var {i : Nat} {v : V} (h : σ[i]? = some (some v)) (r : Rp F v d) : EvD (tVar i) σ F d := e_varP h fun _ s => r.mono s
theorem e_int {i : Int} : EvD (tC (.int i)) σ F (.int i) := fun S H1 _ _ Q q => q _ H1 (Same.refl _) (.int i)
theorem e_str {x : PySem.Str} : EvD (tC (.str x)) σ F (.str x) := fun S H1 _ _ Q q => q _ H1 (Same.refl _) (.str x)
theorem e_bl {b : Bool} : EvD (tC (.bl b)) σ F (.bool b) := fun S H1 _ _ Q q => q _ H1 (Same.refl _) (.bl b)
theorem e_non : EvD (tC .non) σ F .none := fun S H1 _ _ Q q => q _ H1 (Same.refl _) .non
theorem a_nil : EvA tNil σ F [] := fun S H1 _ _ Q q => q _ H1 (Same.refl _) .nil
theorem a_cons (h : EvD te σ F d) (hs : EvA tas σ F ds) : EvA (tCons te tas) σ F (d :: ds) := fun S H1 f s Q q =>
  h S H1 f s _ fun v H2 s2 r => hs S H2 (f.mono s2) (s.trans (offS_mono s2)) _ fun vs H3 s3 rs => q _ H3 (s2.trans s3) (.cons (r.mono (offS_mono s3)) rs)
theorem e_tup (h : EvA tas σ F ds) (hl : ds.length ≤ 1000 := by first | decide | (simp only [List.length_cons, List.length_nil]; omega)) : EvD (tTup tas) σ F (.tuple ds) := fun S H1 f s Q q =>
  h S H1 f s _ fun vs H2 s2 r => ⟨by rw [r.length]; exact Nat.le_of_lt (small1000 hl), fun p hp => q _ _ (s2.trans (same_new hp)) (.tup (offS_new (f.mono s2) hp) (r.mono (offS_mono (same_new hp))))⟩
theorem e_lst (h : EvA tas σ F ds) (hl : ds.length ≤ 1000 := by first | decide | (simp only [List.length_cons, List.length_nil]; omega)) : EvD (tLst tas) σ F (.list ds) := fun S H1 f s Q q =>
  h S H1 f s _ fun vs H2 s2 r => ⟨by rw [r.length]; exact Nat.le_of_lt (small1000 hl), fun p hp => q _ _ (s2.trans (same_new hp)) (.lst (offS_new (f.mono s2) hp) (r.mono (offS_mono (same_new hp))))⟩
theorem e_dic : EvD tDNewK σ F (.dict []) := fun S H1 f s Q q => fun p hp => q _ _ (same_new hp) (.dic (ns := []) (offS_new f hp))
/-! operators -/
theorem e_op {r : R2} (ha : EvD ta σ F d) (hb : EvD tb σ F e)
    (hr : ∀ (S : Addr → Bool) (H : Hp) (x y : V), Fr S H → Rp (offS S H) x d → Rp (offS S H) y e → ∀ Q : VK, (∀ v H2, Same H H2 → P (offS S H2) v → Q v H2) → r x y H Q) : EvP (tOp r ta tb) σ F P := fun S H1 f s Q q =>
  ha S H1 f s _ fun x H2 s2 r2 => hb S H2 (f.mono s2) (s.trans (offS_mono s2)) _ fun y H3 s3 r3 =>
    hr S H3 x y (f.mono (s2.trans s3)) (r2.mono (offS_mono s3)) r3 Q fun v H4 s4 p => q v H4 ((s2.trans s3).trans s4) p
theorem e_un {r : V → Hp → VK → Prop} (ha : EvD ta σ F d)
    (hr : ∀ (S : Addr → Bool) (H : Hp) (x : V), Fr S H → Rp (offS S H) x d → ∀ Q : VK, (∀ v H2, Same H H2 → P (offS S H2) v → Q v H2) → r x H Q) : EvP (tUn r ta) σ F P := fun S H1 f s Q q =>
  ha S H1 f s _ fun x H2 s2 r2 => hr S H2 x (f.mono s2) r2 Q fun v H4 s4 p => q v H4 (s2.trans s4) p
theorem e_neg {i : Int} (ha : EvD ta σ F (.int i)) : EvD (tUn (rU fun i => .int (-i)) ta) σ F (.int (-i)) := e_un ha fun S H x f r Q q => by
  cases r
  exact ⟨i, rfl, q _ H (Same.refl _) (.int _)⟩
theorem e_add {i j : Int} (ha : EvD ta σ F (.int i)) (hb : EvD tb σ F (.int j)) : EvD (tOp (rI0 fun i j => .int (i + j)) ta tb) σ F (.int (i + j)) := e_op ha hb fun S H x y f rx ry Q q => by
  cases rx; cases ry
  exact ⟨i, j, rfl, rfl, q _ H (Same.refl _) (.int _)⟩
theorem e_sub {i j : Int} (ha : EvD ta σ F (.int i)) (hb : EvD tb σ F (.int j)) : EvD (tOp (rI0 fun i j => .int (i - j)) ta tb) σ F (.int (i - j)) := e_op ha hb fun S H x y f rx ry Q q => by
  cases rx; cases ry
  exact ⟨i, j, rfl, rfl, q _ H (Same.refl _) (.int _)⟩
theorem e_mul {i j : Int} (ha : EvD ta σ F (.int i)) (hb : EvD tb σ F (.int j)) (h : CMul i j) : EvD (tOp (rI CMul fun i j => .int (i * j)) ta tb) σ F (.int (i * j)) := e_op ha hb fun S H x y f rx ry Q q => by
  cases rx; cases ry
  exact ⟨i, j, rfl, rfl, h, q _ H (Same.refl _) (.int _)⟩
theorem e_cmp {g : Int → Int → Bool} {i j : Int} (ha : EvD ta σ F (.int i)) (hb : EvD tb σ F (.int j)) : EvD (tOp (rI0 fun i j => .bl (g i j)) ta tb) σ F (.bool (g i j)) := e_op ha hb fun S H x y f rx ry Q q => by
  cases rx; cases ry
  exact ⟨i, j, rfl, rfl, q _ H (Same.refl _) (.bl _)⟩
theorem e_eqI {i j : Int} (ha : EvD ta σ F (.int i)) (hb : EvD tb σ F (.int j)) : EvD (tOp rEq ta tb) σ F (.bool (decide (i = j))) := e_op ha hb fun S H x y f rx ry Q q => by
  cases rx; cases ry
  refine ⟨rfl, q _ H (Same.refl _) ?_⟩
  have e : decide (V.int i = V.int j) = decide (i = j) := by simp
  rw [e]
  exact .bl _
theorem e_neI {i j : Int} (ha : EvD ta σ F (.int i)) (hb : EvD tb σ F (.int j)) : EvD (tOp rNe ta tb) σ F (.bool (!decide (i = j))) := e_op ha hb fun S H x y f rx ry Q q => by
  cases rx; cases ry
  refine ⟨rfl, q _ H (Same.refl _) ?_⟩
  have e : decide (V.int i = V.int j) = decide (i = j) := by simp
  rw [e]
  exact .bl _
theorem e_eqS {i j : PySem.Str} (ha : EvD ta σ F (.str i)) (hb : EvD tb σ F (.str j)) : EvD (tOp rEq ta tb) σ F (.bool (decide (i = j))) := e_op ha hb fun S H x y f rx ry Q q => by
  cases rx; cases ry
  refine ⟨rfl, q _ H (Same.refl _) ?_⟩
  have e : decide (V.str i = V.str j) = decide (i = j) := by simp
  rw [e]
  exact .bl _
theorem e_neS {i j : PySem.Str} (ha : EvD ta σ F (.str i)) (hb : EvD tb σ F (.str j)) : EvD (tOp rNe ta tb) σ F (.bool (!decide (i = j))) := e_op ha hb fun S H x y f rx ry Q q => by
  cases rx; cases ry
  refine ⟨rfl, q _ H (Same.refl _) ?_⟩
  have e : decide (V.str i = V.str j) = decide (i = j) := by simp
  rw [e]
  exact .bl _
theorem e_addS {x y : PySem.Str} (ha : EvD ta σ F (.str x)) (hb : EvD tb σ F (.str y)) (hl : x.length + y.length ≤ 1000) :
    EvD (tOp (fun x y H Q => ∃ i j, x = .str i ∧ y = .str j ∧ i.length + j.length ≤ sizeLine ∧ Q (.str (i ++ j)) H) ta tb) σ F (.str (x ++ y)) := e_op ha hb fun S H u v f rx ry Q q => by
  cases rx; cases ry
  exact ⟨x, y, rfl, rfl, Nat.le_of_lt (small1000 hl), q _ H (Same.refl _) (.str _)⟩
theorem rp_lst {S : Addr → Bool} {H : Hp} {v : V} (r : Rp (offS S H) v (.list ds)) : ∃ a xs, v = .ref a ∧ H a = some (.lst xs) ∧ RpA (offS S H) xs ds := by
  cases r with
  | lst h q => exact ⟨_, _, rfl, offS_same _ _ h, q⟩
theorem rp_tup {S : Addr → Bool} {H : Hp} {v : V} (r : Rp (offS S H) v (.tuple ds)) : ∃ a xs, v = .ref a ∧ H a = some (.tup xs) ∧ RpA (offS S H) xs ds := by
  cases r with
  | tup h q => exact ⟨_, _, rfl, offS_same _ _ h, q⟩
theorem e_cat (ha : EvD ta σ F (.list ds)) (hb : EvD tb σ F (.list es)) (hl : ds.length + es.length ≤ 1000) : EvD (tOp rCat ta tb) σ F (.list (ds ++ es)) := e_op ha hb fun S H x y f rx ry Q q => by
  obtain ⟨a, xs, rfl, h1, r1⟩ := rp_lst rx
  obtain ⟨b, ys, rfl, h2, r2⟩ := rp_lst ry
  have l1 := r1.length
  have l2 := r2.length
  exact ⟨a, b, xs, ys, rfl, rfl, h1, h2, Nat.le_of_lt (small1000 (by omega)), fun p hp => q _ _ (same_new hp) (.lst (offS_new f hp) ((r1.append r2).mono (offS_mono (same_new hp))))⟩
theorem e_catT (ha : EvD ta σ F (.tuple ds)) (hb : EvD tb σ F (.tuple es)) (hl : ds.length + es.length ≤ 1000) : EvD (tOp (rCatA K) ta tb) σ F (.tuple (ds ++ es)) := e_op ha hb fun S H x y f rx ry Q q => by
  obtain ⟨a, xs, rfl, h1, r1⟩ := rp_tup rx
  obtain ⟨b, ys, rfl, h2, r2⟩ := rp_tup ry
  have l1 := r1.length
  have l2 := r2.length
  refine ⟨a, b, xs, ys, rfl, rfl, .inl (.inl h1), .inl (.inl h2), Nat.le_of_lt (small1000 (by omega)), fun z => ?_, fun z1 z2 => ?_, fun _ _ p hp => q _ _ (same_new hp) (.tup (offS_new f hp) ((r1.append r2).mono (offS_mono (same_new hp))))⟩
  · subst z
    have : ds = [] := List.eq_nil_of_length_eq_zero (by simpa using l1.symm)
    subst this
    exact q _ H (Same.refl _) ry
  · subst z2
    have : es = [] := List.eq_nil_of_length_eq_zero (by simpa using l2.symm)
    subst this
    rw [List.append_nil] at q
    exact q _ H (Same.refl _) rx
theorem rpa_rep {H : Hp} {xs : List V} (r : RpA H xs ds) : ∀ n : Nat, RpA H (List.replicate n xs).flatten (List.replicate n ds).flatten
  | 0 => .nil
  | n + 1 => by
    rw [List.replicate_succ, List.replicate_succ, List.flatten_cons, List.flatten_cons]
    exact r.append (rpa_rep r n)
theorem e_rep {k : Nat} (ha : EvD ta σ F (.list ds)) (hb : EvD tb σ F (.int (k : Int))) (hl : ds.length * k ≤ 1000) (hk : k < 2 ^ 62) : EvD (tOp rRep ta tb) σ F (.list (List.replicate k ds).flatten) := e_op ha hb fun S H x y f rx ry Q q => by
  obtain ⟨a, xs, rfl, h1, r1⟩ := rp_lst rx
  cases ry
  have l1 := r1.length
  refine ⟨a, _, xs, rfl, rfl, h1, by omega, by omega, ?_, fun p hp => q _ _ (same_new hp) (.lst (offS_new f hp) ((rpa_rep r1 k).mono (offS_mono (same_new hp))))⟩
  rw [l1]
  exact Nat.le_of_lt (small1000 hl)
theorem atI_of {xs : List V} {i : Int} {n : Nat} {x : V} (h : i = (n : Int)) (hx : xs[n]? = some x) : atI xs i = some x := L2.at_of h hx
theorem e_ixL {i : Int} {n : Nat} (ha : EvD ta σ F (.list ds)) (hb : EvD tb σ F (.int i)) (hi : i = (n : Int)) (hd : ds[n]? = some d) : EvD (tOp (rIxL K) ta tb) σ F d := e_op ha hb fun S H x y f rx ry Q q => by
  obtain ⟨a, xs, rfl, h1, r1⟩ := rp_lst rx
  cases ry
  obtain ⟨v, hv, rv⟩ := r1.at hd
  exact ⟨a, xs, i, v, rfl, rfl, .inl (.inl h1), atI_of hi hv, q _ H (Same.refl _) rv⟩
theorem e_ixT {i : Int} {n : Nat} (ha : EvD ta σ F (.tuple ds)) (hb : EvD tb σ F (.int i)) (hi : i = (n : Int)) (hd : ds[n]? = some d) : EvD (tOp (rIxT K) ta tb) σ F d := e_op ha hb fun S H x y f rx ry Q q => by
  obtain ⟨a, xs, rfl, h1, r1⟩ := rp_tup rx
  cases ry
  obtain ⟨v, hv, rv⟩ := r1.at hd
  exact ⟨a, xs, i, v, rfl, rfl, .inl (.inl h1), atI_of hi hv, q _ H (Same.refl _) rv⟩
/-! slices -/
theorem o_none : EvO tNoPart σ F none := fun S H1 f s Q q => q H1 (Same.refl _)
theorem o_some {i : Int} (h : EvD te σ F (.int i)) : EvO (tPart te) σ F (some i) := fun S H1 f s Q q => h S H1 f s _ fun v H2 s2 r => by
  cases r
  exact ⟨i, rfl, q H2 s2⟩
theorem e_sl {r : V → Option Int → Option Int → Hp → VK → Prop} {tl th : TO} {lo hi : Option Int} (ha : EvD ta σ F d) (hl : EvO tl σ F lo) (hh : EvO th σ F hi)
    (hr : ∀ (S : Addr → Bool) (H : Hp) (x : V), Fr S H → Rp (offS S H) x d → ∀ Q : VK, (∀ v H2, Same H H2 → P (offS S H2) v → Q v H2) → r x lo hi H Q) : EvP (tSl r ta tl th) σ F P := fun S H1 f s Q q =>
  ha S H1 f s _ fun x H2 s2 r2 => hl S H2 (f.mono s2) (s.trans (offS_mono s2)) _ fun H3 s3 => hh S H3 (f.mono (s2.trans s3)) (s.trans (offS_mono (s2.trans s3))) _ fun H4 s4 =>
    hr S H4 x (f.mono ((s2.trans s3).trans s4)) (r2.mono (offS_mono (s3.trans s4))) Q fun v H5 s5 p => q v H5 (((s2.trans s3).trans s4).trans s5) p
def cutD (ds : List PyData) (lo hi : Option Int) : List PyData := (ds.drop (HT.sIx ds.length 0 lo)).take (HT.sIx ds.length ds.length hi - HT.sIx ds.length 0 lo)
theorem rpa_cut {H : Hp} {xs : List V} {lo hi : Option Int} (r : RpA H xs ds) : RpA H (cutV xs lo hi) (cutD ds lo hi) := by
  unfold cutV cutD
  rw [r.length]
  exact (r.drop _).take _
theorem e_slL {tl th : TO} {lo hi : Option Int} (ha : EvD ta σ F (.list ds)) (hl : EvO tl σ F lo) (hh : EvO th σ F hi) : EvD (tSl (rSlL K) ta tl th) σ F (.list (cutD ds lo hi)) := e_sl ha hl hh fun S H x f rx Q q => by
  obtain ⟨a, xs, rfl, h1, r1⟩ := rp_lst rx
  exact ⟨a, xs, rfl, .inl (.inl h1), fun p hp => q _ _ (same_new hp) (.lst (offS_new f hp) ((rpa_cut r1).mono (offS_mono (same_new hp))))⟩
theorem e_slT {tl th : TO} {lo hi : Option Int} (ha : EvD ta σ F (.tuple ds)) (hl : EvO tl σ F lo) (hh : EvO th σ F hi) : EvD (tSl (rSlA K) ta tl th) σ F (.tuple (cutD ds lo hi)) := e_sl ha hl hh fun S H x f rx Q q => by
  obtain ⟨a, xs, rfl, h1, r1⟩ := rp_tup rx
  refine ⟨a, xs, rfl, .inl (.inl h1), fun z => ?_, fun _ p hp => q _ _ (same_new hp) (.tup (offS_new f hp) ((rpa_cut r1).mono (offS_mono (same_new hp))))⟩
  have e : cutD ds lo hi = ds := by
    unfold cutD
    rw [r1.length] at z
    rw [z.1, z.2]
    simp
  rw [e] at q
  exact q _ H (Same.refl _) rx
/-! bools, tests -/
theorem b_val {b : Bool} (h : EvD te σ F (.bool b)) : EvB (tB te) σ F b := fun S H1 f s Q q => h S H1 f s _ fun v H2 s2 r => by
  cases r
  exact ⟨b, rfl, q H2 s2⟩
theorem b_test {b : Bool} (h : EvD te σ F (.bool b)) : EvB (tTest te) σ F b := fun S H1 f s Q q => h S H1 f s _ fun v H2 s2 r => by
  cases r
  exact ⟨b, rfl, q H2 s2⟩
theorem b_yes : EvB tYes σ F true := fun S H1 f s Q q => q H1 (Same.refl _)
theorem b_not {b : Bool} (h : EvB tt σ F b) : EvB (tNot tt) σ F (!b) := fun S H1 f s Q q => h S H1 f s _ fun H2 s2 => q H2 s2
theorem b_and {a b : Bool} (h : EvB tt σ F a) (h2 : a = true → EvB tu σ F b) : EvB (tAnd tt tu) σ F (a && b) := fun S H1 f s Q q => h S H1 f s _ fun H2 s2 => by
  cases a with
  | true => exact h2 rfl S H2 (f.mono s2) (s.trans (offS_mono s2)) _ fun H3 s3 => q H3 (s2.trans s3)
  | false => exact q H2 s2
theorem b_or {a b : Bool} (h : EvB tt σ F a) (h2 : a = false → EvB tu σ F b) : EvB (tOr tt tu) σ F (a || b) := fun S H1 f s Q q => h S H1 f s _ fun H2 s2 => by
  cases a with
  | false => exact h2 rfl S H2 (f.mono s2) (s.trans (offS_mono s2)) _ fun H3 s3 => q H3 (s2.trans s3)
  | true => exact q H2 s2
theorem e_and {a b : Bool} (h : EvD ta σ F (.bool a)) (h2 : a = true → EvD tb σ F (.bool b)) : EvD (tAndV ta tb) σ F (.bool (a && b)) := fun S H1 f s Q q => h S H1 f s _ fun v H2 s2 r => by
  cases r
  refine ⟨a, rfl, ?_⟩
  cases a with
  | true => exact h2 rfl S H2 (f.mono s2) (s.trans (offS_mono s2)) _ fun v H3 s3 r3 => q v H3 (s2.trans s3) r3
  | false => exact q _ H2 s2 (.bl _)
theorem e_or {a b : Bool} (h : EvD ta σ F (.bool a)) (h2 : a = false → EvD tb σ F (.bool b)) : EvD (tOrV ta tb) σ F (.bool (a || b)) := fun S H1 f s Q q => h S H1 f s _ fun v H2 s2 r => by
  cases r
  refine ⟨a, rfl, ?_⟩
  cases a with
  | false => exact h2 rfl S H2 (f.mono s2) (s.trans (offS_mono s2)) _ fun v H3 s3 r3 => q v H3 (s2.trans s3) r3
  | true => exact q _ H2 s2 (.bl _)
theorem e_not {a : Bool} (h : EvD ta σ F (.bool a)) : EvD (tNotV ta) σ F (.bool (!a)) := fun S H1 f s Q q => h S H1 f s _ fun v H2 s2 r => by
  cases r
  exact ⟨a, rfl, q _ H2 s2 (.bl _)⟩
theorem e_ifP {b : Bool} (h : EvB tt σ F b) (h1 : b = true → EvP ta σ F P) (h2 : b = false → EvP tb σ F P) : EvP (tIf tt ta tb) σ F P := fun S H1 f s Q q => h S H1 f s _ fun H2 s2 => by
  cases b with
  | true => exact h1 rfl S H2 (f.mono s2) (s.trans (offS_mono s2)) _ fun v H3 s3 r3 => q v H3 (s2.trans s3) r3
  | false => exact h2 rfl S H2 (f.mono s2) (s.trans (offS_mono s2)) _ fun v H3 s3 r3 => q v H3 (s2.trans s3) r3
/-! membership -/
theorem ints_flat (ns : List Int) : (ns.map V.int).all flatV = true := by
  induction ns with
  | nil => rfl
  | cons n ns ih => rw [List.map_cons, List.all_cons, ih]; rfl
theorem inV_ints (n : Int) (ns : List Int) : inV (.int n) (ns.map V.int) = ns.contains n := by
  unfold inV
  induction ns with
  | nil => rfl
  | cons m ns ih =>
    rw [List.map_cons, List.any_cons, ih, List.contains_cons]
    have e : eqV (.int m) (.int n) = (n == m) := by
      have e1 : eqV (.int m) (.int n) = (m == n) := by simp [eqV]
      rw [e1]
      exact Bool.eq_iff_iff.mpr ⟨fun z => beq_iff_eq.mpr (beq_iff_eq.mp z).symm, fun z => beq_iff_eq.mpr (beq_iff_eq.mp z).symm⟩
    rw [e]
theorem ints_rp {H : Hp} : ∀ {xs : List V} {ns : List Int}, RpA H xs (ns.map PyData.int) → xs = ns.map V.int
  | _, [], r => by cases r; rfl
  | _, n :: ns, r => by
    cases r with
    | cons h q =>
      cases h
      rw [ints_rp q]
      rfl
theorem rp_ints {H : Hp} : ∀ ns : List Int, RpA H (ns.map V.int) (ns.map PyData.int)
  | [] => .nil
  | n :: ns => .cons (.int n) (rp_ints ns)
theorem e_inT {n : Int} {ns : List Int} (ha : EvD ta σ F (.int n)) (hb : EvD tb σ F (.tuple (ns.map .int))) : EvD (tOp (rIn K false) ta tb) σ F (.bool (ns.contains n)) := e_op ha hb fun S H x y f rx ry Q q => by
  cases rx
  obtain ⟨a, xs, rfl, h1, r1⟩ := rp_tup ry
  rw [ints_rp r1] at h1
  refine ⟨a, _, rfl, .inr (.inl (.inl h1)), rfl, ints_flat ns, q _ H (Same.refl _) ?_⟩
  show Rp (offS S H) (.bl (inV (.int n) (ns.map V.int))) _
  rw [inV_ints]
  exact .bl _
theorem e_inL {n : Int} {ns : List Int} (ha : EvD ta σ F (.int n)) (hb : EvD tb σ F (.list (ns.map .int))) : EvD (tOp (rIn K false) ta tb) σ F (.bool (ns.contains n)) := e_op ha hb fun S H x y f rx ry Q q => by
  cases rx
  obtain ⟨a, xs, rfl, h1, r1⟩ := rp_lst ry
  rw [ints_rp r1] at h1
  refine ⟨a, _, rfl, .inl (.inl (.inl h1)), rfl, ints_flat ns, q _ H (Same.refl _) ?_⟩
  show Rp (offS S H) (.bl (inV (.int n) (ns.map V.int))) _
  rw [inV_ints]
  exact .bl _
/-! calls of built-ins and of defs -/
theorem e_cb {r : List V → Hp → VK → Prop} (h : EvA tas σ F ds)
    (hr : ∀ (S : Addr → Bool) (H : Hp) (vs : List V), Fr S H → RpA (offS S H) vs ds → ∀ Q : VK, (∀ v H2, Same H H2 → P (offS S H2) v → Q v H2) → r vs H Q) : EvP (tCB r tas) σ F P := fun S H1 f s Q q =>
  h S H1 f s _ fun vs H2 s2 r2 => hr S H2 vs (f.mono s2) r2 Q fun v H4 s4 p => q v H4 (s2.trans s4) p
theorem rpa1 {H : Hp} {vs : List V} (r : RpA H vs [d]) : ∃ v, vs = [v] ∧ Rp H v d := by
  cases r with
  | cons h q =>
    cases q
    exact ⟨_, rfl, h⟩
theorem rpa2 {H : Hp} {vs : List V} {d1 d2 : PyData} (r : RpA H vs [d1, d2]) : ∃ v1 v2, vs = [v1, v2] ∧ Rp H v1 d1 ∧ Rp H v2 d2 := by
  cases r with
  | cons h q =>
    obtain ⟨v, rfl, h2⟩ := rpa1 q
    exact ⟨_, _, rfl, h, h2⟩
theorem rpa3 {H : Hp} {vs : List V} {d1 d2 d3 : PyData} (r : RpA H vs [d1, d2, d3]) : ∃ v1 v2 v3, vs = [v1, v2, v3] ∧ Rp H v1 d1 ∧ Rp H v2 d2 ∧ Rp H v3 d3 := by
  cases r with
  | cons h q =>
    obtain ⟨v, w, rfl, h2, h3⟩ := rpa2 q
    exact ⟨_, _, _, rfl, h, h2, h3⟩
theorem rpa4 {H : Hp} {vs : List V} {d1 d2 d3 d4 : PyData} (r : RpA H vs [d1, d2, d3, d4]) : ∃ v1 v2 v3 v4, vs = [v1, v2, v3, v4] ∧ Rp H v1 d1 ∧ Rp H v2 d2 ∧ Rp H v3 d3 ∧ Rp H v4 d4 := by
  cases r with
  | cons h q =>
    obtain ⟨v, w, u, rfl, h2, h3, h4⟩ := rpa3 q
    exact ⟨_, _, _, _, rfl, h, h2, h3, h4⟩
def rLenQ (K : PySem.W.Frag) : List V → Hp → VK → Prop := fun xs H Q => ∃ p ys, xs = [.ref p] ∧ (SqL K H p ys ∨ SqT K H p ys) ∧ Q (.int ys.length) H
theorem call_lenQ {X : Cx} : CallR X (.builtin "len") (rLenQ X.K) := call_len_seq
def rTupQ (K : PySem.W.Frag) : List V → Hp → VK → Prop := fun xs H Q => ∃ p ys, xs = [.ref p] ∧ ((SqL K H p ys ∧ ∀ l, H l = none → Q (.ref l) (upd H l (.tup ys))) ∨ (SqT K H p ys ∧ Q (.ref p) H))
theorem call_tupQ {X : Cx} : CallR X (.type "tuple") (rTupQ X.K) := call_tuple_of
def rLstQ (K : PySem.W.Frag) : List V → Hp → VK → Prop := fun xs H Q => ∃ p ys, xs = [.ref p] ∧ (SqL K H p ys ∨ SqT K H p ys) ∧ ∀ l, H l = none → Q (.ref l) (upd H l (.lst ys))
theorem call_lstQ {X : Cx} : CallR X (.type "list") (rLstQ X.K) := call_list_of
def rJoinQ (K : PySem.W.Frag) : V → List V → Hp → VK → Prop := fun x xs H Q => ∃ a p, ∃ ys : List PySem.Str, x = .str a ∧ xs = [.ref p] ∧ (SqL K H p (ys.map V.str) ∨ SqT K H p (ys.map V.str)) ∧ (ys.map (·.length)).sum + ys.length * a.length ≤ 16777216 ∧ Q (.str (Txt.join a ys)) H
theorem e_lenL (h : EvD ta σ F (.list ds)) : EvD (tCB (rLenQ K) (tCons ta tNil)) σ F (.int ds.length) := e_cb (a_cons h a_nil) fun S H vs f r Q q => by
  obtain ⟨v, rfl, r1⟩ := rpa1 r
  obtain ⟨a, xs, rfl, h1, r2⟩ := rp_lst r1
  refine ⟨a, xs, rfl, .inl (.inl (.inl h1)), q _ H (Same.refl _) ?_⟩
  rw [r2.length]
  exact .int _
theorem e_lenT (h : EvD ta σ F (.tuple ds)) : EvD (tCB (rLenQ K) (tCons ta tNil)) σ F (.int ds.length) := e_cb (a_cons h a_nil) fun S H vs f r Q q => by
  obtain ⟨v, rfl, r1⟩ := rpa1 r
  obtain ⟨a, xs, rfl, h1, r2⟩ := rp_tup r1
  refine ⟨a, xs, rfl, .inr (.inl (.inl h1)), q _ H (Same.refl _) ?_⟩
  rw [r2.length]
  exact .int _
theorem bools_rp {H : Hp} : ∀ {xs : List V} {bs : List Bool}, RpA H xs (bs.map PyData.bool) → xs = bs.map V.bl
  | _, [], r => by cases r; rfl
  | _, n :: ns, r => by
    cases r with
    | cons h q =>
      cases h
      rw [bools_rp q]
      rfl
theorem strs_rp {H : Hp} : ∀ {xs : List V} {bs : List PySem.Str}, RpA H xs (bs.map PyData.str) → xs = bs.map V.str
  | _, [], r => by cases r; rfl
  | _, n :: ns, r => by
    cases r with
    | cons h q =>
      cases h
      rw [strs_rp q]
      rfl
def truD : PyData → Bool
  | .bool b => b
  | _ => false
def intD : PyData → Int
  | .int i => i
  | _ => 0
def strD : PyData → PySem.Str
  | .str x => x
  | _ => PySem.Str.ofString ""
theorem of_bools : ∀ {ds : List PyData}, (∀ d ∈ ds, ∃ b, d = .bool b) → ds = (ds.map truD).map .bool
  | [], _ => rfl
  | d :: ds, h => by
    obtain ⟨b, rfl⟩ := h d (.head _)
    rw [List.map_cons, List.map_cons, ← of_bools fun e he => h e (.tail _ he)]
    rfl
theorem of_ints : ∀ {ds : List PyData}, (∀ d ∈ ds, ∃ i, d = .int i) → ds = (ds.map intD).map .int
  | [], _ => rfl
  | d :: ds, h => by
    obtain ⟨b, rfl⟩ := h d (.head _)
    rw [List.map_cons, List.map_cons, ← of_ints fun e he => h e (.tail _ he)]
    rfl
theorem of_strs : ∀ {ds : List PyData}, (∀ d ∈ ds, ∃ x, d = .str x) → ds = (ds.map strD).map .str
  | [], _ => rfl
  | d :: ds, h => by
    obtain ⟨b, rfl⟩ := h d (.head _)
    rw [List.map_cons, List.map_cons, ← of_strs fun e he => h e (.tail _ he)]
    rfl
theorem eqD (h : EvD te σ F d) (he : d = e) : EvD te σ F e := he ▸ h
theorem e_all (h : EvD ta σ F (.list ds)) (hb : ∀ d ∈ ds, ∃ b, d = .bool b) : EvD (tCB (rAll K) (tCons ta tNil)) σ F (.bool (ds.all truD)) := e_cb (a_cons h a_nil) fun S H vs f r Q q => by
  obtain ⟨v, rfl, r1⟩ := rpa1 r
  obtain ⟨a, xs, rfl, h1, r2⟩ := rp_lst r1
  rw [of_bools hb] at r2
  rw [bools_rp r2] at h1
  refine ⟨a, _, rfl, .inl (.inl h1), q _ H (Same.refl _) ?_⟩
  rw [List.all_map]
  exact .bl _
theorem e_any (h : EvD ta σ F (.list ds)) (hb : ∀ d ∈ ds, ∃ b, d = .bool b) : EvD (tCB (rAny K) (tCons ta tNil)) σ F (.bool (ds.any truD)) := e_cb (a_cons h a_nil) fun S H vs f r Q q => by
  obtain ⟨v, rfl, r1⟩ := rpa1 r
  obtain ⟨a, xs, rfl, h1, r2⟩ := rp_lst r1
  rw [of_bools hb] at r2
  rw [bools_rp r2] at h1
  refine ⟨a, _, rfl, .inl (.inl h1), q _ H (Same.refl _) ?_⟩
  rw [List.any_map]
  exact .bl _
theorem e_sum (h : EvD ta σ F (.list ds)) (hb : ∀ d ∈ ds, ∃ i, d = .int i) : EvD (tCB (rSum K) (tCons ta tNil)) σ F (.int (ds.map intD).sum) := e_cb (a_cons h a_nil) fun S H vs f r Q q => by
  obtain ⟨v, rfl, r1⟩ := rpa1 r
  obtain ⟨a, xs, rfl, h1, r2⟩ := rp_lst r1
  rw [of_ints hb] at r2
  rw [ints_rp r2] at h1
  exact ⟨a, _, rfl, .inl (.inl h1), q _ H (Same.refl _) (.int _)⟩
theorem e_inD {n : Int} (ha : EvD ta σ F (.int n)) (hb : EvD tb σ F (.tuple ds)) (hi : ∀ d ∈ ds, ∃ i, d = .int i) : EvD (tOp (rIn K false) ta tb) σ F (.bool ((ds.map intD).contains n)) := e_inT ha (eqD hb (by rw [← of_ints hi]))
theorem e_inDL {n : Int} (ha : EvD ta σ F (.int n)) (hb : EvD tb σ F (.list ds)) (hi : ∀ d ∈ ds, ∃ i, d = .int i) : EvD (tOp (rIn K false) ta tb) σ F (.bool ((ds.map intD).contains n)) := e_inL ha (eqD hb (by rw [← of_ints hi]))
theorem e_tupOf (h : EvD ta σ F (.list ds)) : EvD (tCB (rTupQ K) (tCons ta tNil)) σ F (.tuple ds) := e_cb (a_cons h a_nil) fun S H vs f r Q q => by
  obtain ⟨v, rfl, r1⟩ := rpa1 r
  obtain ⟨a, xs, rfl, h1, r2⟩ := rp_lst r1
  exact ⟨a, xs, rfl, .inl ⟨.inl (.inl h1), fun p hp => q _ _ (same_new hp) (.tup (offS_new f hp) (r2.mono (offS_mono (same_new hp))))⟩⟩
theorem e_strI {i : Int} (h : EvD ta σ F (.int i)) (hl : i.natAbs.log2 < 1920) : EvD (tCB (fun xs H Q => ∃ i, xs = [.int i] ∧ i.natAbs.log2 < 1920 ∧ Q (.str (toString i)) H) (tCons ta tNil)) σ F (.str (PySem.Str.ofString (toString i))) := e_cb (a_cons h a_nil) fun S H vs f r Q q => by
  obtain ⟨v, rfl, r1⟩ := rpa1 r
  cases r1
  exact ⟨i, rfl, hl, q _ H (Same.refl _) (.str _)⟩
/-- the promise of a def over data: R its arguments and its answer -/
def spR (R : List PyData → PyData → Prop) : Sp := fun vs H Q _ => ∃ (S : Addr → Bool) (ds : List PyData) (d : PyData), Fr S H ∧ RpA (offS S H) vs ds ∧ R ds d ∧ ∀ v H', Same H H' → Rp (offS S H') v d → Q v H'
theorem spR_len {R : List PyData → PyData → Prop} {n : Nat} (h : ∀ ds d, R ds d → ds.length = n) : ∀ vs H Q E, spR R vs H Q E → vs.length = n := fun vs H Q E ⟨S, ds, d, f, r, hr, _⟩ => by
  rw [r.length]
  exact h ds d hr
theorem e_call {R : List PyData → PyData → Prop} {E : XK} (h : EvA tas σ F ds) (hR : R ds d) : EvD (tCall (spR R) [] E tas) σ F d := fun S H1 f s Q q =>
  h S H1 f s _ fun vs H2 s2 r2 => ⟨S, ds, d, f.mono s2, by rw [List.append_nil]; exact r2, hR, fun v H3 s3 r3 => q v H3 (s2.trans s3) r3⟩
/-! comprehensions -/
def GtP (g : TG) (x : V) (σ : L2.St) (F : Hp) (C : L2.St → Prop) : Prop := ∀ (S : Addr → Bool) (H1 : Hp), Fr S H1 → Same F (offS S H1) → ∀ Q : L2.St → Hp → Prop, (∀ σ2, C σ2 → Q σ2 H1) → g x σ H1 Q
theorem g_name {i : Nat} {x : V} {C : L2.St → Prop} (h : C (σ.set i (some x))) : GtP (gName i) x σ F C := fun S H1 f s Q q => q _ h
theorem g_tup2 {i j : Nat} {x : V} {C : L2.St → Prop} {d1 d2 : PyData} (r : Rp F x (.tuple [d1, d2])) (h : ∀ v1 v2, Rp F v1 d1 → Rp F v2 d2 → C ((σ.set i (some v1)).set j (some v2))) :
    GtP (gTup K 2 (gCons (gName i) (gCons (gName j) gNil))) x σ F C := fun S H1 f s Q q => by
  cases r with
  | tup h1 r1 =>
    obtain ⟨v1, v2, rfl, r1, r2⟩ := rpa2 r1
    exact ⟨_, _, rfl, .inl (.inl (offS_same _ _ (s _ _ h1))), rfl, _, _, rfl, _, _, rfl, rfl, q _ (h v1 v2 r1 r2)⟩
theorem g_tup3 {i j k : Nat} {x : V} {C : L2.St → Prop} {d1 d2 d3 : PyData} (r : Rp F x (.tuple [d1, d2, d3])) (h : ∀ v1 v2 v3, Rp F v1 d1 → Rp F v2 d2 → Rp F v3 d3 → C (((σ.set i (some v1)).set j (some v2)).set k (some v3))) :
    GtP (gTup K 3 (gCons (gName i) (gCons (gName j) (gCons (gName k) gNil)))) x σ F C := fun S H1 f s Q q => by
  cases r with
  | tup h1 r1 =>
    obtain ⟨v1, v2, v3, rfl, r1, r2, r3⟩ := rpa3 r1
    exact ⟨_, _, rfl, .inl (.inl (offS_same _ _ (s _ _ h1))), rfl, _, _, rfl, _, _, rfl, _, _, rfl, rfl, q _ (h v1 v2 v3 r1 r2 r3)⟩
theorem g_tup4 {i j k l : Nat} {x : V} {C : L2.St → Prop} {d1 d2 d3 d4 : PyData} (r : Rp F x (.tuple [d1, d2, d3, d4])) (h : ∀ v1 v2 v3 v4, Rp F v1 d1 → Rp F v2 d2 → Rp F v3 d3 → Rp F v4 d4 → C ((((σ.set i (some v1)).set j (some v2)).set k (some v3)).set l (some v4))) :
    GtP (gTup K 4 (gCons (gName i) (gCons (gName j) (gCons (gName k) (gCons (gName l) gNil))))) x σ F C := fun S H1 f s Q q => by
  cases r with
  | tup h1 r1 =>
    obtain ⟨v1, v2, v3, v4, rfl, r1, r2, r3, r4⟩ := rpa4 r1
    exact ⟨_, _, rfl, .inl (.inl (offS_same _ _ (s _ _ h1))), rfl, _, _, rfl, _, _, rfl, _, _, rfl, _, _, rfl, rfl, q _ (h v1 v2 v3 v4 r1 r2 r3 r4)⟩
theorem small9 {n : Nat} (h : n ≤ 90000) : n < sizeLine := by
  unfold sizeLine
  omega
/-- a turn of a comprehension over what reads as d -/
abbrev Turn (g : TG) (tt : TT) (te : TE) (σ : L2.St) (vs : List Nat) (F : Hp) (d : PyData) (b : Bool) (e : PyData) : Prop :=
  ∀ x F1, Same F F1 → Rp F1 x d → GtP g x (wipe σ vs) F1 fun σ2 => wipe σ2 vs = wipe σ vs ∧ EvB tt σ2 F1 b ∧ (b = true → EvD te σ2 F1 e)
section
variable {α : Type} {enc : α → PyData} {as : List α} {b : α → Bool} {ev : α → PyData} {g : TG} {vs : List Nat}
abbrev LInv (S : Addr → Bool) (H0 : Hp) (D : Addr) (as : List α) (b : α → Bool) (ev : α → PyData) (i : Nat) (H' : Hp) : Prop :=
  Same H0 H' ∧ ∃ acc, H' D = some (.lst acc) ∧ RpA (offS (addS S D) H') acc (((as.take i).filter b).map ev)
theorem l_turn {S : Addr → Bool} {H0 : Hp} {D : Addr} {a : α} {i : Nat} {H' : Hp} {x : V} (fr : Fr S H0) (sF : Same F (offS S H0)) (hD : H0 D = none) (hz : as.length ≤ 90000) (hi : as[i]? = some a) (rx : Rp (offS S H0) x (enc a))
    (ht : Turn g tt te σ vs F (enc a) (b a) (ev a)) (inv : LInv S H0 D as b ev i H') :
    g x (wipe σ vs) H' fun σ2 H2 => wipe σ2 vs = wipe σ vs ∧ tt σ2 H2 fun c H3 => if c = true then te σ2 H3 fun y H4 => ∃ acc, H4 D = some (.lst acc) ∧ acc.length < sizeLine ∧
      LInv S H0 D as b ev (i + 1) (upd H4 D (.lst (acc ++ [y]))) else LInv S H0 D as b ev (i + 1) H3 := by
  obtain ⟨s, acc, hacc, ra⟩ := inv
  have f1 : Fr (addS S D) H' := (fr.mono s).add hacc trivial
  have hDo : offS S H0 D = none := by
    unfold offS
    split
    · rfl
    · exact hD
  have s1 : Same (offS S H0) (offS (addS S D) H') := addS_new hDo (offS_mono s)
  have e1 : as.take (i + 1) = as.take i ++ [a] := take_more hi
  refine ht x (offS (addS S D) H') (sF.trans s1) (rx.mono s1) (addS S D) H' f1 (Same.refl _) _ fun σ2 ⟨w, hb, he⟩ => ⟨w, hb (addS S D) H' f1 (Same.refl _) _ fun H3 s3 => ?_⟩
  cases hb2 : b a with
  | false =>
    refine ⟨s.trans s3, acc, s3 _ _ hacc, ?_⟩
    rw [e1, List.filter_append, List.map_append]
    have : [a].filter b = [] := by simp [hb2]
    rw [this, List.map_nil, List.append_nil]
    exact ra.mono (offS_mono s3)
  | true =>
    refine he hb2 (addS S D) H3 (f1.mono s3) (offS_mono s3) _ fun y H4 s4 r4 => ⟨acc, (s3.trans s4) _ _ hacc, ?_, same_mut (s.trans (s3.trans s4)) hD, _, upd_same, ?_⟩
    · have l1 := ra.length
      rw [List.length_map] at l1
      have l2 := List.length_filter_le b (as.take i)
      have l3 : (as.take i).length ≤ 90000 := by rw [List.length_take]; omega
      exact small9 (by omega)
    · rw [e1, List.filter_append, List.map_append]
      have : [a].filter b = [a] := by simp [hb2]
      rw [this]
      exact ((ra.mono (offS_mono (s3.trans s4))).mono addS_upd).append (.cons (r4.mono addS_upd) .nil)
theorem l_fin {S : Addr → Bool} {H0 : Hp} {D : Addr} {H' : Hp} {n : Nat} (fr : Fr S H0) (hD : H0 D = none) (hn : n = as.length) (inv : LInv S H0 D as b ev n H') : Rp (offS S H') (.ref D) (.list ((as.filter b).map ev)) := by
  obtain ⟨s, acc, hacc, ra⟩ := inv
  rw [hn, List.take_length] at ra
  exact .lst (by rw [offS_at (fr.new hD)]; exact hacc) (ra.mono addS_off)
theorem l_get {H : Hp} {xs : List V} {i : Nat} {x : V} (r : RpA H xs (as.map enc)) (hx : xs[i]? = some x) : ∃ a, as[i]? = some a ∧ Rp H x (enc a) := by
  obtain ⟨d, hd, rx⟩ := r.get hx
  rw [List.getElem?_map] at hd
  cases ha : as[i]? with
  | none => rw [ha] at hd; cases hd
  | some a =>
    rw [ha] at hd
    cases hd
    exact ⟨a, rfl, rx⟩
theorem e_lcL {tl : TE} (hl : EvD tl σ F (.list (as.map enc))) (hz : as.length ≤ 90000) (ht : ∀ a ∈ as, Turn g tt te σ vs F (enc a) (b a) (ev a)) :
    EvD (tLc (iList K tl) g tt te vs) σ F (.list ((as.filter b).map ev)) := fun S H1 f s Q q => hl S H1 f s _ fun v H2 s2 r => by
  obtain ⟨a, xs, rfl, h1, r1⟩ := rp_lst r
  refine ⟨a, rfl, ⟨xs, .inl (.inl h1)⟩, fun D hD => ?_⟩
  have f2 := f.mono s2
  have sF := s.trans (offS_mono (S := S) s2)
  refine lc_list (LInv S H2 D as b ev) ⟨same_new hD, [], upd_same, .nil⟩ (fun i H' _ p => .inl (.inl (p.1 _ _ h1))) (fun i x H' hx inv => ?_) fun H' inv => q _ _ (s2.trans inv.1) (l_fin f2 hD (by rw [r1.length, List.length_map]) inv)
  obtain ⟨t, ht1, rx⟩ := l_get r1 hx
  exact l_turn f2 sF hD hz ht1 rx (ht t (List.mem_of_getElem? ht1)) inv
theorem e_lcT {tl : TE} (hl : EvD tl σ F (.tuple (as.map enc))) (hz : as.length ≤ 90000) (ht : ∀ a ∈ as, Turn g tt te σ vs F (enc a) (b a) (ev a)) :
    EvD (tLc (iTup K tl) g tt te vs) σ F (.list ((as.filter b).map ev)) := fun S H1 f s Q q => hl S H1 f s _ fun v H2 s2 r => by
  obtain ⟨a, xs, rfl, h1, r1⟩ := rp_tup r
  refine ⟨a, rfl, ⟨xs, .inl (.inl h1)⟩, fun D hD => ?_⟩
  have f2 := f.mono s2
  have sF := s.trans (offS_mono (S := S) s2)
  refine lc_tup (LInv S H2 D as b ev) ⟨same_new hD, [], upd_same, .nil⟩ (fun i H' _ p => .inl (.inl (p.1 _ _ h1))) (fun i x H' hx inv => ?_) fun H' inv => q _ _ (s2.trans inv.1) (l_fin f2 hD (by rw [r1.length, List.length_map]) inv)
  obtain ⟨t, ht1, rx⟩ := l_get r1 hx
  exact l_turn f2 sF hD hz ht1 rx (ht t (List.mem_of_getElem? ht1)) inv
end
/-- over range(n) -/
theorem e_lcR {ta : TA} {n : Nat} {b : Nat → Bool} {ev : Nat → PyData} {g : TG} {vs : List Nat} (hl : EvA ta σ F [.int (n : Int)]) (hz : n ≤ 1000) (ht : ∀ a, a < n → Turn g tt te σ vs F (.int (a : Int)) (b a) (ev a)) :
    EvD (tLc (iRng1 ta) g tt te vs) σ F (.list (((List.range n).filter b).map ev)) := fun S H1 f s Q q => hl S H1 f s _ fun v H2 s2 r => by
  obtain ⟨v1, rfl, r1⟩ := rpa1 r
  cases r1
  refine ⟨_, rfl, by omega, by omega, fun D hD => ?_⟩
  have f2 := f.mono s2
  have sF := s.trans (offS_mono (S := S) s2)
  have en : ((n : Nat) : Int).toNat = n := by omega
  refine lc_range (lo := 0) (n := ((n : Nat) : Int).toNat) (LInv S H2 D (List.range n) b ev) ⟨same_new hD, [], upd_same, .nil⟩ (fun i H' hi inv => ?_) fun H' inv => q _ _ (s2.trans inv.1) (l_fin f2 hD (by rw [en, List.length_range]) inv)
  have hi2 : i < n := by omega
  have e0 : (0 : Int) + (i : Int) = (i : Int) := by omega
  rw [e0]
  exact l_turn (as := List.range n) (enc := fun a : Nat => PyData.int (a : Int)) f2 sF hD (by rw [List.length_range]; exact Nat.le_trans hz (by decide)) (List.getElem?_range hi2) (.int _) (ht i hi2) inv
/-! statements -/
variable {S : Addr → Bool} {H : Hp} {D : L2.Ends} {t u : TS}
theorem go_seq (h : t { D with nx := u D } σ H) : tSeq t u D σ H := h
theorem go_ret (f : Fr S H) (h : EvP te σ (offS S H) P) (k : ∀ v H', Same H H' → P (offS S H') v → D.rt v H') : tRet te D σ H := h S H f (Same.refl _) _ k
theorem go_set {i : Nat} (f : Fr S H) (h : EvP te σ (offS S H) P) (k : ∀ v H', Same H H' → Fr S H' → P (offS S H') v → D.nx (σ.set i (some v)) H') : tAsg te (gName i) D σ H := h S H f (Same.refl _) _ fun v H' s p => k v H' s (f.mono s) p
theorem go_if {b : Bool} (f : Fr S H) (h : EvB tt σ (offS S H) b) (k1 : b = true → ∀ H', Same H H' → Fr S H' → t D σ H') (k2 : b = false → ∀ H', Same H H' → Fr S H' → u D σ H') : tIfS tt t u D σ H := h S H f (Same.refl _) _ fun H' s => by
  cases b with
  | true => exact k1 rfl H' s (f.mono s)
  | false => exact k2 rfl H' s (f.mono s)
theorem go_ifT (f : Fr S H) (h : EvB tt σ (offS S H) true) (k1 : ∀ H', Same H H' → Fr S H' → t D σ H') : tIfS tt t u D σ H := go_if f h (fun _ => k1) fun z => by cases z
theorem go_ifF (f : Fr S H) (h : EvB tt σ (offS S H) false) (k1 : ∀ H', Same H H' → Fr S H' → u D σ H') : tIfS tt t u D σ H := go_if f h (fun z => by cases z) fun _ => k1
end
end Ca

set_option maxHeartbeats 4000000
namespace Ca
open PySem PySem.Spec PyProof.Rows L2
/-- a def of the module under its name -/
structure Fd (P : Program) (w : World) (K : PySem.W.Frag) (mg : PySem.Str → Option Value) (base : Heap) (x : PySem.Str) (k : Nat) (ps : List PySem.Str) (sp : Sp) : Prop where
  ex : ∃ f fd, FnOk P w K mg base CX0 k f fd ps sp ∧ Binds K fd ps [] ∧ PySem.W.keepIn K (.ref f) = true ∧ mg x = some (.ref f)
/-- ascending, each once -/
def ins1 (n : Int) : List Int → List Int
  | [] => [n]
  | m :: l => if n < m then n :: m :: l else if n = m then m :: l else m :: ins1 n l
def sd (l : List Int) : List Int := l.foldr ins1 []
theorem ins1_mem {n k : Int} : ∀ {l : List Int}, k ∈ ins1 n l ↔ k = n ∨ k ∈ l
  | [] => by simp [ins1]
  | m :: l => by
    unfold ins1
    split
    · simp
    · split
      · rename_i h
        subst h
        simp
      · rw [List.mem_cons, ins1_mem (l := l), List.mem_cons]
        constructor
        · rintro (h | h | h)
          · exact .inr (.inl h)
          · exact .inl h
          · exact .inr (.inr h)
        · rintro (h | h | h)
          · exact .inr (.inl h)
          · exact .inl h
          · exact .inr (.inr h)
theorem sd_mem {k : Int} : ∀ {l : List Int}, k ∈ sd l ↔ k ∈ l
  | [] => by simp [sd]
  | n :: l => by
    show k ∈ ins1 n (sd l) ↔ _
    rw [ins1_mem, sd_mem (l := l), List.mem_cons]
theorem ins1_up {n : Int} : ∀ {l : List Int}, l.Pairwise (· < ·) → (ins1 n l).Pairwise (· < ·)
  | [], _ => by simp [ins1]
  | m :: l, h => by
    rw [List.pairwise_cons] at h
    unfold ins1
    split
    · rename_i c
      rw [List.pairwise_cons]
      refine ⟨fun k hk => ?_, List.pairwise_cons.mpr h⟩
      rcases List.mem_cons.mp hk with e | e
      · rw [e]; exact c
      · exact Int.lt_trans c (h.1 k e)
    · split
      · exact List.pairwise_cons.mpr h
      · rename_i c1 c2
        rw [List.pairwise_cons]
        refine ⟨fun k hk => ?_, ins1_up h.2⟩
        rcases ins1_mem.mp hk with e | e
        · rw [e]; omega
        · exact h.1 k e
theorem sd_up : ∀ l : List Int, (sd l).Pairwise (· < ·)
  | [] => .nil
  | n :: l => ins1_up (sd_up l)
theorem up_eq : ∀ {a b : List Int}, a.Pairwise (· < ·) → b.Pairwise (· < ·) → (∀ k, k ∈ a ↔ k ∈ b) → a = b
  | [], [], _, _, _ => rfl
  | [], m :: b, _, _, h => absurd ((h m).mpr (.head _)) (by simp)
  | n :: a, [], _, _, h => absurd ((h n).mp (.head _)) (by simp)
  | n :: a, m :: b, ha, hb, h => by
    rw [List.pairwise_cons] at ha hb
    have e : n = m := by
      rcases List.mem_cons.mp ((h n).mp (.head _)) with z | z
      · exact z
      · rcases List.mem_cons.mp ((h m).mpr (.head _)) with y | y
        · exact y.symm
        · have := ha.1 m y
          have := hb.1 n z
          omega
    subst e
    rw [up_eq ha.2 hb.2 fun k => ?_]
    constructor
    · intro hk
      rcases List.mem_cons.mp ((h k).mp (.tail _ hk)) with z | z
      · have := ha.1 k hk
        omega
      · exact z
    · intro hk
      rcases List.mem_cons.mp ((h k).mpr (.tail _ hk)) with z | z
      · have := hb.1 k hk
        omega
      · exact z
end Ca
namespace Q
open PySem PySem.Spec PyProof.Rows L2 Ca
/-! what is proved already, as promises over data -/
theorem ats_off {S : Addr → Bool} {H : Hp} (f : Fr S H) {as : List At} {xs : List V} (r : RpA H xs (as.map atD)) : RpA (offS S H) xs (as.map atD) :=
  by
  induction as generalizing xs with
  | nil => cases r; exact .nil
  | cons a as ih =>
    cases r with
    | cons h q =>
      obtain ⟨p, rfl, hp⟩ := at_of h
      exact .cons (.tup (by rw [offS_at (f.imm hp (by simp [MutO]))]; exact hp) (.cons (.str _) (.cons (.int _) (.cons (.int _) .nil)))) (ih q)
def RVars : List PyData → PyData → Prop := fun ds d => ∃ as : List At, (ds = [.tuple (as.map atD)] ∨ ds = [.list (as.map atD)]) ∧ as.length ≤ 30 ∧ d = .tuple ((sd (vars as)).map .int)
def RText : List PyData → PyData → Prop := fun ds d => ∃ as : List At, (ds = [.tuple (as.map atD)] ∨ ds = [.list (as.map atD)]) ∧ as.length ≤ 30 ∧ (∀ a ∈ as, Good a) ∧ d = .str (txt as)
def RAre : List PyData → PyData → Prop := fun ds d => ∃ es : List PyData, (ds = [.tuple es] ∨ ds = [.list es]) ∧ es.length ≤ 1000 ∧ d = .bool (areAt es)
section
variable {P : Program} {w : World} {K : PySem.W.Frag} {mg : PySem.Str → Option Value} {base : Heap}
theorem text_imp : ∀ vs H Q E, spR RText vs H Q E → spText vs H Q E := by
  rintro vs H Q E ⟨S, ds, d, f, r, ⟨as, hd, hl, hg, rfl⟩, q⟩
  rcases hd with e | e
  all_goals
    subst e
    obtain ⟨v, rfl, rv⟩ := rpa1 r
    exact ⟨v, _, as, rfl, rv.mono offS_same, by first | exact .inl rfl | exact .inr rfl, hl, hg, fun H' s => q _ H' s (.str _)⟩
theorem are_imp : ∀ vs H Q E, spR RAre vs H Q E → spAre vs H Q E := by
  rintro vs H Q E ⟨S, ds, d, f, r, ⟨es, hd, hl, rfl⟩, q⟩
  rcases hd with e | e
  all_goals
    subst e
    obtain ⟨v, rfl, rv⟩ := rpa1 r
    exact ⟨v, _, es, rfl, rv.mono offS_same, by first | exact .inl rfl | exact .inr rfl, hl, fun H' s => q _ H' s (.bl _)⟩
end
end Q

set_option maxHeartbeats 4000000
namespace Ca
open PySem PySem.Spec PyProof.Rows L2
theorem cut_take (ds : List PyData) (k : Nat) : cutD ds none (some (k : Int)) = ds.take k := by
  unfold cutD
  rw [HT.sIx_none, HT.sIx_nat, Nat.sub_zero, List.drop_zero]
  rcases Nat.le_total k ds.length with h | h
  · rw [Nat.min_eq_left h]
  · rw [Nat.min_eq_right h, List.take_of_length_le (Nat.le_refl _), List.take_of_length_le h]
theorem cut_drop (ds : List PyData) (k : Nat) : cutD ds (some (k : Int)) none = ds.drop k := by
  unfold cutD
  rw [HT.sIx_none, HT.sIx_nat]
  rcases Nat.le_total k ds.length with h | h
  · rw [Nat.min_eq_left h, List.take_of_length_le (by rw [List.length_drop]; exact Nat.le_refl _)]
  · rw [Nat.min_eq_right h, List.drop_of_length_le (Nat.le_refl _), List.drop_of_length_le h, List.take_nil]
section
variable {K : PySem.W.Frag} {σ : L2.St} {ta tb tc te : TE} {tas : TA} {tt tu : TT} {d e : PyData} {ds es : List PyData} {P P2 : Hp → V → Prop}
variable {S : Addr → Bool} {H : Hp} {D : L2.Ends} {t u : TS} {g : TG}
theorem go_forR {n : Nat} (fr : Fr S H) (h : EvA tas σ (offS S H) [.int (n : Int)]) (hz : n < 2 ^ 62) (k : ∀ H1, Same H H1 → Fr S H1 → ∃ Pv : Nat → L2.St → Hp → Prop, Pv 0 σ H1 ∧
    (∀ i σ' H', i < n → Pv i σ' H' → g (.int (i : Int)) σ' H' fun σ2 H2 => t { D with nx := Pv (i + 1), ct := Pv (i + 1), bk := D.nx } σ2 H2) ∧ (∀ σ' H', Pv n σ' H' → D.nx σ' H')) : tFor (iRng1 tas) g t D σ H :=
  h S H fr (Same.refl _) _ fun vs H1 s1 r => by
    obtain ⟨v1, rfl, r1⟩ := rpa1 r
    cases r1
    obtain ⟨Pv, p0, ps, pd⟩ := k H1 s1 (fr.mono s1)
    have en : ((n : Nat) : Int).toNat = n := by omega
    refine ⟨_, rfl, by omega, by omega, for_range (lo := 0) (n := ((n : Nat) : Int).toNat) Pv p0 (fun i σ' H' hi p => ?_) fun σ' H' p => pd σ' H' ?_⟩
    · have e0 : (0 : Int) + (i : Int) = (i : Int) := by omega
      rw [e0]
      exact ps i σ' H' (by omega) p
    · rw [en] at p
      exact p
section
variable {α : Type} {enc : α → PyData} {as : List α}
theorem go_forL {tl : TE} (fr : Fr S H) (h : EvD tl σ (offS S H) (.list (as.map enc))) (k : ∀ H1, Same H H1 → Fr S H1 → ∃ Pv : Nat → L2.St → Hp → Prop, Pv 0 σ H1 ∧
    (∀ i σ' H', Pv i σ' H' → Fr S H' ∧ Same (offS S H1) (offS S H')) ∧
    (∀ i a x σ' H', as[i]? = some a → Rp (offS S H') x (enc a) → Pv i σ' H' → g x σ' H' fun σ2 H2 => t { D with nx := Pv (i + 1), ct := Pv (i + 1), bk := D.nx } σ2 H2) ∧
    (∀ σ' H', Pv as.length σ' H' → D.nx σ' H')) : tFor (iList K tl) g t D σ H :=
  h S H fr (Same.refl _) _ fun v H1 s1 r => by
    obtain ⟨Pv, p0, pk, ps, pd⟩ := k H1 s1 (fr.mono s1)
    cases r with
    | @lst a xs _ h1 r1 =>
      have hl : xs.length = as.length := by rw [r1.length, List.length_map]
      refine ⟨a, rfl, ⟨xs, .inl (.inl (offS_same _ _ h1))⟩, for_list (xs := xs) Pv p0 (fun i σ' H' _ p => .inl (.inl (offS_same _ _ ((pk i σ' H' p).2 _ _ h1)))) (fun i x σ' H' hx p => ?_) fun σ' H' p => pd σ' H' (by rw [hl] at p; exact p)⟩
      obtain ⟨t1, ht1, rx⟩ := l_get r1 hx
      exact ps i t1 x σ' H' ht1 (rx.mono (pk i σ' H' p).2) p
theorem go_forT {tl : TE} (fr : Fr S H) (h : EvD tl σ (offS S H) (.tuple (as.map enc))) (k : ∀ H1, Same H H1 → Fr S H1 → ∃ Pv : Nat → L2.St → Hp → Prop, Pv 0 σ H1 ∧
    (∀ i σ' H', Pv i σ' H' → Fr S H' ∧ Same (offS S H1) (offS S H')) ∧
    (∀ i a x σ' H', as[i]? = some a → Rp (offS S H') x (enc a) → Pv i σ' H' → g x σ' H' fun σ2 H2 => t { D with nx := Pv (i + 1), ct := Pv (i + 1), bk := D.nx } σ2 H2) ∧
    (∀ σ' H', Pv as.length σ' H' → D.nx σ' H')) : tFor (iTup K tl) g t D σ H :=
  h S H fr (Same.refl _) _ fun v H1 s1 r => by
    obtain ⟨Pv, p0, pk, ps, pd⟩ := k H1 s1 (fr.mono s1)
    cases r with
    | @tup a xs _ h1 r1 =>
      have hl : xs.length = as.length := by rw [r1.length, List.length_map]
      refine ⟨a, rfl, ⟨xs, .inl (.inl (offS_same _ _ h1))⟩, for_tup (xs := xs) Pv p0 (fun i σ' H' _ p => .inl (.inl (offS_same _ _ ((pk i σ' H' p).2 _ _ h1)))) (fun i x σ' H' hx p => ?_) fun σ' H' p => pd σ' H' (by rw [hl] at p; exact p)⟩
      obtain ⟨t1, ht1, rx⟩ := l_get r1 hx
      exact ps i t1 x σ' H' ht1 (rx.mono (pk i σ' H' p).2) p
end
theorem go_setS {i : Nat} (f : Fr S H) (h : EvP te σ (offS S H) P) (k : ∀ v H', Same H H' → Fr S H' → P (offS S H') v → u D (σ.set i (some v)) H') : tSeq (tAsg te (gName i)) u D σ H := go_set (D := { D with nx := u D }) f h k
theorem go_forRS {n : Nat} (fr : Fr S H) (h : EvA tas σ (offS S H) [.int (n : Int)]) (hz : n < 2 ^ 62) (k : ∀ H1, Same H H1 → Fr S H1 → ∃ Pv : Nat → L2.St → Hp → Prop, Pv 0 σ H1 ∧
    (∀ i σ' H', i < n → Pv i σ' H' → g (.int (i : Int)) σ' H' fun σ2 H2 => t { D with nx := Pv (i + 1), ct := Pv (i + 1), bk := u D } σ2 H2) ∧ (∀ σ' H', Pv n σ' H' → u D σ' H')) : tSeq (tFor (iRng1 tas) g t) u D σ H := go_forR (D := { D with nx := u D }) fr h hz k
section
variable {α : Type} {enc : α → PyData} {as : List α}
theorem go_forLS {tl : TE} (fr : Fr S H) (h : EvD tl σ (offS S H) (.list (as.map enc))) (k : ∀ H1, Same H H1 → Fr S H1 → ∃ Pv : Nat → L2.St → Hp → Prop, Pv 0 σ H1 ∧
    (∀ i σ' H', Pv i σ' H' → Fr S H' ∧ Same (offS S H1) (offS S H')) ∧
    (∀ i a x σ' H', as[i]? = some a → Rp (offS S H') x (enc a) → Pv i σ' H' → g x σ' H' fun σ2 H2 => t { D with nx := Pv (i + 1), ct := Pv (i + 1), bk := u D } σ2 H2) ∧
    (∀ σ' H', Pv as.length σ' H' → u D σ' H')) : tSeq (tFor (iList K tl) g t) u D σ H := go_forL (D := { D with nx := u D }) fr h k
end
theorem go_ifS {b : Bool} {t1 t2 : TS} (f : Fr S H) (h : EvB tt σ (offS S H) b) (k1 : b = true → ∀ H', Same H H' → Fr S H' → t1 { D with nx := u D } σ H') (k2 : b = false → ∀ H', Same H H' → Fr S H' → t2 { D with nx := u D } σ H') : tSeq (tIfS tt t1 t2) u D σ H := go_if (D := { D with nx := u D }) f h k1 k2
/-! data compared -/
mutual
def nd : PyData → Bool
  | .list ds => ndA ds
  | .tuple ds => ndA ds
  | .dict _ => false
  | _ => true
def ndA : List PyData → Bool
  | [] => true
  | d :: ds => nd d && ndA ds
end
mutual
theorem Rp.dp {H : Hp} : ∀ {d : PyData} {v : V}, nd d = true → Rp H v d → Dp K H v d
  | _, _, _, .non => .non
  | _, _, _, .bl b => .bl b
  | _, _, _, .int i => .int i
  | _, _, _, .str x => .str x
  | _, _, h, .lst h1 r => .lst (.inl (.inl h1)) (RpA.dp (by simpa [nd] using h) r)
  | _, _, h, .tup h1 r => .tup (.inl (.inl h1)) (RpA.dp (by simpa [nd] using h) r)
  | _, _, h, .dic h1 => by simp [nd] at h
theorem RpA.dp {H : Hp} : ∀ {ds : List PyData} {vs : List V}, ndA ds = true → RpA H vs ds → DpAll K H vs ds
  | _, _, _, .nil => .nil
  | _, _, h, .cons h1 r => by
    have h2 := h
    simp only [ndA, Bool.and_eq_true] at h2
    exact .cons (Rp.dp h2.1 h1) (RpA.dp h2.2 r)
end
def eqOk (d : PyData) : Bool := nd d && SeqAt.shaped d
theorem e_eqD {F : Hp} (ha : EvD ta σ F d) (hb : EvD tb σ F e) (h1 : eqOk d = true) (h2 : eqOk e = true) : EvD (tOp (rEqD K) ta tb) σ F (.bool (PyData.eqv d e)) := e_op ha hb fun S H x y f rx ry Q q => by
  unfold eqOk at h1 h2
  rw [Bool.and_eq_true] at h1 h2
  exact ⟨d, e, Rp.dp h1.1 (rx.mono offS_same), Rp.dp h2.1 (ry.mono offS_same), h1.2, h2.2, q _ H (Same.refl _) (.bl _)⟩
theorem e_neD {F : Hp} (ha : EvD ta σ F d) (hb : EvD tb σ F e) (h1 : eqOk d = true) (h2 : eqOk e = true) : EvD (tOp (rNeD K) ta tb) σ F (.bool (!PyData.eqv d e)) := e_op ha hb fun S H x y f rx ry Q q => by
  unfold eqOk at h1 h2
  rw [Bool.and_eq_true] at h1 h2
  exact ⟨d, e, Rp.dp h1.1 (rx.mono offS_same), Rp.dp h2.1 (ry.mono offS_same), h1.2, h2.2, q _ H (Same.refl _) (.bl _)⟩
/-! texts -/
theorem e_joinL {F : Hp} {x : PySem.Str} (ha : EvD ta σ F (.str x)) (hb : EvD tb σ F (.list ds)) (hs : ∀ d ∈ ds, ∃ y, d = .str y) (hl : ((ds.map strD).map (·.length)).sum + (ds.map strD).length * x.length ≤ 16777216) :
    EvD (tM1 (rJoinQ K) ta tb) σ F (.str (Txt.join x (ds.map strD))) := fun S H1 f s Q q =>
  ha S H1 f s _ fun v H2 s2 r2 => by
    cases r2
    refine ⟨⟨_, rfl⟩, hb S H2 (f.mono s2) (s.trans (offS_mono s2)) _ fun w H3 s3 r3 => ?_⟩
    obtain ⟨a, xs, rfl, h1, r1⟩ := rp_lst r3
    rw [of_strs hs] at r1
    rw [strs_rp r1] at h1
    exact ⟨x, a, _, rfl, rfl, .inl (.inl (.inl h1)), hl, q _ H3 (s2.trans s3) (.str _)⟩
end
end Ca

set_option maxHeartbeats 4000000
namespace Ca
open PySem PySem.Spec PyProof.Rows L2
section
variable {X : Cx} {K : PySem.W.Frag} {tg e o : Expr} {t to te : TE} {apos pos : Pos}
theorem pi_listQ (hK : X.K = K) (h : PE X e t) : PI X tg e (iList K t) := hK ▸ pi_list h
theorem pi_tupQ (hK : X.K = K) (h : PE X e t) : PI X tg e (iTup K t) := hK ▸ pi_tup h
theorem pe_joinQ (hK : X.K = K) (ho : PE X o to) (he : PE X e te) (hs : starEach [e] X.env = [(false, eval e X.env)] := by rfl) (hbase : attributeBase o "join" X.env (eval o X.env) = eval o X.env := by rfl) (hline : (apos.endLine == pos.line) = true := by rfl) :
    PE X (.Call (.Attribute o "join" apos) [e] [] pos) (tM1 (rJoinQ K) to te) := hK ▸ pe_join ho he hs hbase hline
end
/-! data that may be compared -/
structure Cq (k : Nat) (d : PyData) : Prop where
  n : nd d = true
  c : d.canLay0 = true
  p : d.depth ≤ k
theorem Cq.ok {k : Nat} {d : PyData} (h : Cq k d) (hk : k ≤ 64 := by decide) : eqOk d = true := by
  unfold eqOk SeqAt.shaped
  rw [h.n, h.c, decide_eq_true (Nat.le_trans h.p hk)]
  rfl
theorem Cq.mono {k m : Nat} {d : PyData} (h : Cq k d) (hk : k ≤ m) : Cq m d := ⟨h.n, h.c, Nat.le_trans h.p hk⟩
theorem cq_all {k : Nat} : ∀ {ds : List PyData}, (∀ d ∈ ds, Cq k d) → ndA ds = true ∧ PyData.canLayAll0 ds = true ∧ PyData.depthAll ds ≤ k
  | [], _ => ⟨rfl, rfl, Nat.zero_le _⟩
  | d :: ds, h => by
    obtain ⟨h1, h2, h3⟩ := cq_all fun e he => h e (.tail _ he)
    have z := h d (.head _)
    refine ⟨?_, ?_, ?_⟩
    · unfold ndA
      rw [z.n, h1]
      rfl
    · unfold PyData.canLayAll0
      rw [z.c, h2]
      rfl
    · unfold PyData.depthAll
      exact Nat.max_le.mpr ⟨z.p, h3⟩
theorem cq_lst {k : Nat} {ds : List PyData} (h : ∀ d ∈ ds, Cq k d) : Cq (k + 1) (.list ds) := by
  obtain ⟨h1, h2, h3⟩ := cq_all h
  refine ⟨by unfold nd; exact h1, by unfold PyData.canLay0; exact h2, by unfold PyData.depth; omega⟩
theorem cq_tup {k : Nat} {ds : List PyData} (h : ∀ d ∈ ds, Cq k d) : Cq (k + 1) (.tuple ds) := by
  obtain ⟨h1, h2, h3⟩ := cq_all h
  refine ⟨by unfold nd; exact h1, by unfold PyData.canLay0; exact h2, by unfold PyData.depth; omega⟩
theorem cq_int {k : Nat} (i : Int) : Cq k (.int i) := ⟨by simp [nd], by simp [PyData.canLay0], by simp [PyData.depth]⟩
theorem cq_bool {k : Nat} (b : Bool) : Cq k (.bool b) := ⟨by simp [nd], by simp [PyData.canLay0], by simp [PyData.depth]⟩
theorem cq_none {k : Nat} : Cq k .none := ⟨by simp [nd], by simp [PyData.canLay0], by simp [PyData.depth]⟩
theorem eqv_nil (ds : List PyData) : PyData.eqv (.list ds) (.list []) = ds.isEmpty := by
  cases ds with
  | nil => simp [PyData.eqv, PyData.eqvAll]
  | cons d ds => simp [PyData.eqv, PyData.eqvAll]
section
variable {K : PySem.W.Frag} {S : Addr → Bool} {H : Hp} {σ : L2.St} {x : V} {Q : L2.St → Hp → Prop} {i j k l : Nat} {d1 d2 d3 d4 : PyData}
theorem gg_tup2 (f : Fr S H) (r : Rp (offS S H) x (.tuple [d1, d2])) (h : ∀ v1 v2, Rp (offS S H) v1 d1 → Rp (offS S H) v2 d2 → Q ((σ.set i (some v1)).set j (some v2)) H) :
    gTup K 2 (gCons (gName i) (gCons (gName j) gNil)) x σ H Q := g_tup2 (C := fun σ2 => Q σ2 H) r h S H f (Same.refl _) Q fun _ c => c
theorem gg_tup3 (f : Fr S H) (r : Rp (offS S H) x (.tuple [d1, d2, d3])) (h : ∀ v1 v2 v3, Rp (offS S H) v1 d1 → Rp (offS S H) v2 d2 → Rp (offS S H) v3 d3 → Q (((σ.set i (some v1)).set j (some v2)).set k (some v3)) H) :
    gTup K 3 (gCons (gName i) (gCons (gName j) (gCons (gName k) gNil))) x σ H Q := g_tup3 (C := fun σ2 => Q σ2 H) r h S H f (Same.refl _) Q fun _ c => c
theorem gg_tup4 (f : Fr S H) (r : Rp (offS S H) x (.tuple [d1, d2, d3, d4])) (h : ∀ v1 v2 v3 v4, Rp (offS S H) v1 d1 → Rp (offS S H) v2 d2 → Rp (offS S H) v3 d3 → Rp (offS S H) v4 d4 → Q ((((σ.set i (some v1)).set j (some v2)).set k (some v3)).set l (some v4)) H) :
    gTup K 4 (gCons (gName i) (gCons (gName j) (gCons (gName k) (gCons (gName l) gNil)))) x σ H Q := g_tup4 (C := fun σ2 => Q σ2 H) r h S H f (Same.refl _) Q fun _ c => c
end
theorem filter_yes {α : Type} (as : List α) : as.filter (fun _ => true) = as := List.filter_eq_self.mpr fun _ _ => rfl
end Ca

set_option maxHeartbeats 4000000
namespace Q
open PySem PySem.Spec PyProof.Rows L2 Ca
/-! questions as values -/
def QV (C : Addr) (as : List At) (F : Hp) (v : V) : Prop := ∃ x dx p, v = .ref x ∧ IsQ F C x dx p as
theorem QV.mono {H H' : Hp} {C : Addr} {as : List At} {v : V} (s : Same H H') (h : QV C as H v) : QV C as H' v := by
  obtain ⟨x, dx, p, e, q⟩ := h
  exact ⟨x, dx, p, e, q.mono s⟩
theorem rp_at_off {S : Addr → Bool} {H : Hp} (f : Fr S H) {a : At} {v : V} (r : Rp H v (atD a)) : Rp (offS S H) v (atD a) := by
  obtain ⟨p, rfl, hp⟩ := at_of r
  exact .tup (by rw [offS_at (f.imm hp (by simp [MutO]))]; exact hp) (.cons (.str _) (.cons (.int _) (.cons (.int _) .nil)))
theorem IsQ.off {S : Addr → Bool} {H : Hp} {C x dx p : Addr} {as : List At} (f : Fr S H) (h : IsQ H C x dx p as) : IsQ (offS S H) C x dx p as := by
  obtain ⟨o, u, ns, h1, h2, h3, h4, bs, e1, e2, e3, e4⟩ := h.obj
  refine ⟨o, u, ns, ?_, ?_, h3, h4, bs, e1, ?_, ?_, fun b hb => ?_⟩
  · rw [offS_at (f.imm h1 (by simp [MutO]))]; exact h1
  · obtain ⟨ob, z1, z2, z3⟩ := h2
    exact ⟨ob, by rw [offS_at (f.imm z1 (by simp [MutO]))]; exact z1, z2, z3⟩
  · rw [offS_at (f.imm e2 (by simp [MutO]))]; exact e2
  · rw [offS_at (f.imm e3 (by simp [MutO]))]; exact e3
  · have m : b.2 ∈ as.map atD := by
      rw [← e1]
      exact List.mem_map.mpr ⟨b, hb, rfl⟩
    obtain ⟨a, _, ea⟩ := List.mem_map.mp m
    have r := e4 b hb
    rw [← ea] at r ⊢
    exact rp_at_off f r
theorem QV.off {S : Addr → Bool} {H : Hp} {C : Addr} {as : List At} {v : V} (f : Fr S H) (h : QV C as H v) : QV C as (offS S H) v := by
  obtain ⟨x, dx, p, e, q⟩ := h
  exact ⟨x, dx, p, e, q.off f⟩
/-- the promise of a def: I what its arguments are and what is true of its answer -/
def spQ (I : Hp → List V → (Hp → V → Prop) → Prop) : Sp := fun vs H Q _ => ∃ (S : Addr → Bool) (P : Hp → V → Prop), Fr S H ∧ I (offS S H) vs P ∧ ∀ v H', Same H H' → P (offS S H') v → Q v H'
theorem spQ_len {I : Hp → List V → (Hp → V → Prop) → Prop} {n : Nat} (h : ∀ F vs P, I F vs P → vs.length = n) : ∀ vs H Q E, spQ I vs H Q E → vs.length = n := fun vs H Q E ⟨S, P, f, i, _⟩ => h _ _ _ i
section
variable {K : PySem.W.Frag} {mg : PySem.Str → Option Value} {σ : L2.St} {F : Hp} {ta tb te : TE} {tas : TA} {C N : Addr} {as : List At} {P P0 : Hp → V → Prop} {E : XK} {I : Hp → List V → (Hp → V → Prop) → Prop}
theorem e_prop (h : EvP ta σ F P0) (hi : ∀ F v, P0 F v → I F [v] P ∧ ∃ a dx fs, v = .ref a ∧ F a = some (.ins C dx fs)) : EvP (tProp C (spQ I) [] E ta) σ F P := fun S H1 f s Q q =>
  h S H1 f s _ fun v H2 s2 p => by
    obtain ⟨i, a, dx, fs, rfl, ha⟩ := hi _ v p
    exact ⟨a, dx, fs, rfl, offS_same _ _ ha, S, P, f.mono s2, i, fun v H3 s3 p3 => q v H3 (s2.trans s3) p3⟩
theorem e_meth0 {m : PySem.Str} (h : EvP ta σ F P0) (hi : ∀ F v, P0 F v → I F [v] P ∧ ∃ a dx fs, v = .ref a ∧ F a = some (.ins C dx fs) ∧ fs.lookup m = none) : EvP (tMeth C m (spQ I) [] E ta tNil) σ F P := fun S H1 f s Q q =>
  h S H1 f s _ fun v H2 s2 p => by
    obtain ⟨i, a, dx, fs, rfl, ha, hm⟩ := hi _ v p
    exact ⟨a, dx, fs, rfl, offS_same _ _ ha, hm, S, P, f.mono s2, i, fun v H3 s3 p3 => q v H3 (s2.trans s3) p3⟩
theorem e_call1 (h : EvP ta σ F P0) (hi : ∀ F v, P0 F v → I F [v] P) : EvP (tCall (spQ I) [] E (tCons ta tNil)) σ F P := fun S H1 f s Q q =>
  h S H1 f s _ fun v H2 s2 p => ⟨S, P, f.mono s2, hi _ v p, fun v H3 s3 p3 => q v H3 (s2.trans s3) p3⟩
/-- the class's own attributes -/
theorem e_given (cl : Cls K C) (nG : NoAttr K C "given") (h : EvP ta σ F (QV C as)) : EvD (tFld K ta "given") σ F (.tuple (as.map atD)) := fun S H1 f s Q q =>
  h S H1 f s _ fun v H2 s2 p => by
    obtain ⟨x, dx, p, rfl, hq⟩ := p
    obtain ⟨o, u, ns, h1, _⟩ := hq.obj
    exact ⟨x, C, dx, _, _, rfl, offS_same _ _ h1, cl, nG, qf_given _ _ _, q _ H2 s2 hq.atoms⟩
/-- Question(*x), x a list of atoms -/
theorem e_glbStar (h : EvD te σ F (.list (as.map atD))) (g : ∀ a ∈ as, Good a) (l1 : 1 ≤ as.length) (l4 : as.length ≤ 4) : EvP (tGlbStar K C (spInitR C N) E te) σ F (QV C as) := fun S H1 f s Q q =>
  h S H1 f s _ fun v H2 s2 r => by
    obtain ⟨a, xs, rfl, ha, rx⟩ := rp_lst r
    refine ⟨a, xs, rfl, .inr (.inl (.inl ha)), make_q (N := N) (rx.mono offS_same) (by rw [List.length_map]; omega) (fun z => ?_) fun bs e gb hA x dx p H' nx sx hq => ?_⟩
    · rw [are_of g l1 l4] at z
      cases z
    · have eb : bs = as := by
        first | exact atD_inj e | exact atD_inj e.symm
      subst eb
      exact q _ H' (s2.trans sx) ⟨x, dx, p, rfl, hq.off ((f.mono s2).mono sx)⟩
end
def IRead (C : Addr) : Hp → List V → (Hp → V → Prop) → Prop := fun F vs P => ∃ as, vs = [.ref C, .str (txt as)] ∧ (∀ a ∈ as, Good a) ∧ 1 ≤ as.length ∧ as.length ≤ 4 ∧ P = QV C as
theorem read_imp {C : Addr} : ∀ vs H Q E, spQ (IRead C) vs H Q E → spRead C vs H Q E := by
  rintro vs H Q E ⟨S, P, f, ⟨as, rfl, g, l1, l4, rfl⟩, q⟩
  exact ⟨as, rfl, g, l1, l4, fun x dx p H' hx s hq => q _ H' s ⟨x, dx, p, rfl, hq.off (f.mono s)⟩⟩
end Q

set_option maxHeartbeats 4000000
namespace Ca
open PySem PySem.Spec PyProof.Rows L2
/-- J goes over what reads as es, at the facts F -/
def Iter (J : It) (F : Hp) (es : List PyData) : Prop := ∀ (S : Addr → Bool) (H : Hp) (i : Nat), Fr S H → Same F (offS S H) →
  (i < es.length → J.go i H ∧ ∀ x H', J.yld i H x H' → Same H H' ∧ ∃ d, es[i]? = some d ∧ Rp (offS S H') x d) ∧ (es.length ≤ i → J.stop i H)
/-- what is gone over reads as es -/
def ItP (wi : TI) (σ : L2.St) (F : Hp) (es : List PyData) : Prop := ∀ (S : Addr → Bool) (H1 : Hp), Fr S H1 → Same F (offS S H1) → ∀ R : It → Hp → Prop, (∀ J H2, Same H1 H2 → Iter J (offS S H2) es → R J H2) → wi σ H1 R
section
variable {K : PySem.W.Frag} {σ : L2.St} {F : Hp} {ta te tl : TE} {tas : TA} {tt tt1 : TT} {ds es : List PyData}
theorem it_list (h : EvD tl σ F (.list ds)) : ItP (iList K tl) σ F ds := fun S H1 f s R r => h S H1 f s _ fun v H2 s2 rv => by
  cases rv with
  | @lst a xs _ ha rx =>
    refine ⟨a, rfl, ⟨xs, .inl (.inl (offS_same _ _ ha))⟩, r _ H2 s2 fun S' H' i f' s' => ⟨fun hi => ?_, fun hi => ⟨xs, .inl (.inl (offS_same _ _ (s' _ _ ha))), by rw [rx.length]; exact hi⟩⟩⟩
    have q := offS_same _ _ (s' _ _ ha)
    have hx : i < xs.length := by rw [rx.length]; exact hi
    refine ⟨⟨xs, xs[i], .inl (.inl q), by simp [hx]⟩, fun x H'' y => ?_⟩
    obtain ⟨rfl, y⟩ := y
    obtain ⟨d, hd, rd⟩ := rx.get (y xs (.inl (.inl q)))
    exact ⟨Same.refl _, d, hd, rd.mono s'⟩
theorem it_tup (h : EvD tl σ F (.tuple ds)) : ItP (iTup K tl) σ F ds := fun S H1 f s R r => h S H1 f s _ fun v H2 s2 rv => by
  cases rv with
  | @tup a xs _ ha rx =>
    refine ⟨a, rfl, ⟨xs, .inl (.inl (offS_same _ _ ha))⟩, r _ H2 s2 fun S' H' i f' s' => ⟨fun hi => ?_, fun hi => ⟨xs, .inl (.inl (offS_same _ _ (s' _ _ ha))), by rw [rx.length]; exact hi⟩⟩⟩
    have q := offS_same _ _ (s' _ _ ha)
    have hx : i < xs.length := by rw [rx.length]; exact hi
    refine ⟨⟨xs, xs[i], .inl (.inl q), by simp [hx]⟩, fun x H'' y => ?_⟩
    obtain ⟨rfl, y⟩ := y
    obtain ⟨d, hd, rd⟩ := rx.get (y xs (.inl (.inl q)))
    exact ⟨Same.refl _, d, hd, rd.mono s'⟩
theorem it_rng {n : Nat} (h : EvA tas σ F [.int (n : Int)]) (hz : n < 2 ^ 62) : ItP (iRng1 tas) σ F ((List.range n).map fun i : Nat => .int (i : Int)) := fun S H1 f s R r => h S H1 f s _ fun vs H2 s2 rv => by
  obtain ⟨v1, rfl, r1⟩ := rpa1 rv
  cases r1
  have en : ((n : Nat) : Int).toNat = n := by omega
  refine ⟨_, rfl, by omega, by omega, r _ H2 s2 fun S' H' i f' s' => ⟨fun hi => ?_, fun hi => ?_⟩⟩
  · rw [List.length_map, List.length_range] at hi
    refine ⟨?_, fun x H'' y => ?_⟩
    · show i < ((n : Nat) : Int).toNat
      omega
    · obtain ⟨rfl, rfl⟩ := y
      refine ⟨Same.refl _, .int (i : Int), ?_, ?_⟩
      · rw [List.getElem?_map, List.getElem?_range hi]
        rfl
      · have e0 : (0 : Int) + (i : Int) = (i : Int) := by omega
        rw [e0]
        exact .int _
  · rw [List.length_map, List.length_range] at hi
    show ((n : Nat) : Int).toNat ≤ i
    omega
section
variable {α β : Type} {enc : α → PyData} {as : List α} {b : α → Bool} {ev : α → PyData} {g g1 : TG} {vs us : List Nat} {wi wj : TI}
/-- one for -/
theorem e_lcG (hi : ItP wi σ F (as.map enc)) (hz : as.length ≤ 90000) (ht : ∀ a ∈ as, Turn g tt te σ vs F (enc a) (b a) (ev a)) :
    EvD (tLc wi g tt te vs) σ F (.list ((as.filter b).map ev)) := fun S H1 f s Q q => hi S H1 f s _ fun J H2 s2 it D hD => by
  have f2 := f.mono s2
  have sF := s.trans (offS_mono (S := S) s2)
  refine ⟨fun i m H' => m = as.length - i ∧ i ≤ as.length ∧ LInv S H2 D as b ev i H', ⟨as.length, by simp, Nat.zero_le _, same_new hD, [], upd_same, .nil⟩, ?_⟩
  rintro i m H' ⟨rfl, hi, inv⟩
  have f3 : Fr S H' := f2.mono inv.1
  have jt := it S H' i f3 (offS_mono inv.1)
  rw [List.length_map] at jt
  by_cases hlt : i < as.length
  · obtain ⟨go, yl⟩ := jt.1 hlt
    refine .inr ⟨go, LInv S H2 D as b ev (i + 1), fun H'' p' => ⟨as.length - (i + 1), by omega, rfl, hlt, p'⟩, fun x H'' y => ?_⟩
    have ha : as[i]? = some as[i] := List.getElem?_eq_getElem hlt
    -- read the item off the list's own place
    obtain ⟨s3, acc, hacc, ra⟩ := inv
    have f4 : Fr (addS S D) H' := f3.add hacc trivial
    have hDo : offS S H2 D = none := by
      unfold offS
      split
      · rfl
      · exact hD
    have s1 : Same (offS S H2) (offS (addS S D) H') := addS_new hDo (offS_mono s3)
    have jt2 := it (addS S D) H' i f4 s1
    rw [List.length_map] at jt2
    obtain ⟨s5, d, hd, rx⟩ := (jt2.1 hlt).2 x H'' y
    rw [List.getElem?_map, ha] at hd
    cases hd
    have f5 := f4.mono s5
    have e1 : as.take (i + 1) = as.take i ++ [as[i]] := take_more ha
    refine ht as[i] (List.getElem_mem hlt) x (offS (addS S D) H'') ((sF.trans s1).trans (offS_mono s5)) rx (addS S D) H'' f5 (Same.refl _) _ fun σ2 ⟨w, hb, he⟩ => ⟨w, hb (addS S D) H'' f5 (Same.refl _) _ fun H3 s6 => ?_⟩
    have hacc3 := (s5.trans s6) _ _ hacc
    cases hb2 : b as[i] with
    | false =>
      refine ⟨s3.trans (s5.trans s6), acc, hacc3, ?_⟩
      rw [e1, List.filter_append, List.map_append]
      have : [as[i]].filter b = [] := by simp [hb2]
      rw [this, List.map_nil, List.append_nil]
      exact ra.mono (offS_mono (s5.trans s6))
    | true =>
      refine he hb2 (addS S D) H3 (f5.mono s6) (offS_mono s6) _ fun y H4 s7 r4 => ⟨acc, s7 _ _ hacc3, ?_, same_mut (s3.trans (s5.trans (s6.trans s7))) hD, _, upd_same, ?_⟩
      · have l1 := ra.length
        rw [List.length_map] at l1
        have l2 := List.length_filter_le b (as.take i)
        have l3 : (as.take i).length ≤ 90000 := by rw [List.length_take]; omega
        exact small9 (by omega)
      · rw [e1, List.filter_append, List.map_append]
        have : [as[i]].filter b = [as[i]] := by simp [hb2]
        rw [this]
        exact ((ra.mono (offS_mono (s5.trans (s6.trans s7)))).mono addS_upd).append (.cons (r4.mono addS_upd) .nil)
  · exact .inl ⟨jt.2 (by omega), q _ _ (s2.trans inv.1) (l_fin f2 hD (by omega) inv)⟩
theorem go_forTS {S : Addr → Bool} {H : Hp} {D : L2.Ends} {t u : TS} {tl : TE} (fr : Fr S H) (h : EvD tl σ (offS S H) (.tuple (as.map enc))) (k : ∀ H1, Same H H1 → Fr S H1 → ∃ Pv : Nat → L2.St → Hp → Prop, Pv 0 σ H1 ∧
    (∀ i σ' H', Pv i σ' H' → Fr S H' ∧ Same (offS S H1) (offS S H')) ∧
    (∀ i a x σ' H', as[i]? = some a → Rp (offS S H') x (enc a) → Pv i σ' H' → g x σ' H' fun σ2 H2 => t { D with nx := Pv (i + 1), ct := Pv (i + 1), bk := u D } σ2 H2) ∧
    (∀ σ' H', Pv as.length σ' H' → u D σ' H')) : tSeq (tFor (iTup K tl) g t) u D σ H := go_forT (D := { D with nx := u D }) fr h k
/-- what is made so far -/
abbrev AccIs (S : Addr → Bool) (H0 : Hp) (D : Addr) (l : List PyData) (H' : Hp) : Prop := Same H0 H' ∧ ∃ acc, H' D = some (.lst acc) ∧ RpA (offS (addS S D) H') acc l
/-- two fors: the second one's items by the first one's -/
theorem e_lc2G {bs : α → List β} {enc1 : β → PyData} {c : α → β → Bool} {ev2 : α → β → PyData} (hi : ItP wi σ F (as.map enc)) (hz : (as.flatMap fun a => ((bs a).filter (c a)).map (ev2 a)).length ≤ 90000)
    (ht : ∀ a ∈ as, ∀ x F1, Same F F1 → Rp F1 x (enc a) → GtP g x (wipe σ vs) F1 fun σ2 => wipe σ2 vs = wipe σ vs ∧ EvB tt σ2 F1 true ∧ ItP wj σ2 F1 ((bs a).map enc1) ∧
      ∀ e ∈ bs a, ∀ y F2, Same F1 F2 → Rp F2 y (enc1 e) → GtP g1 y (wipe σ2 us) F2 fun σ3 => wipe σ3 us = wipe σ2 us ∧ EvB tt1 σ3 F2 (c a e) ∧ (c a e = true → EvD te σ3 F2 (ev2 a e))) :
    EvD (tLc2 wi g tt wj g1 tt1 te vs us) σ F (.list (as.flatMap fun a => ((bs a).filter (c a)).map (ev2 a))) := fun S H1 f s Q q => hi S H1 f s _ fun J H2 s2 it D hD => by
  have f2 := f.mono s2
  have sF := s.trans (offS_mono (S := S) s2)
  have hDo : offS S H2 D = none := by
    unfold offS
    split
    · rfl
    · exact hD
  have small : ∀ {l l2 : List PyData} {acc : List V} {H : Hp}, RpA H acc l → l.length < (l ++ l2).length → (l ++ l2).length ≤ 90000 → acc.length < sizeLine := fun {l l2 acc H} r h1 h2 => by
    have := r.length
    exact small9 (by omega)
  let G : α → List PyData := fun a => ((bs a).filter (c a)).map (ev2 a)
  refine ⟨fun i m H' => m = as.length - i ∧ i ≤ as.length ∧ AccIs S H2 D ((as.take i).flatMap G) H', ⟨as.length, by simp, Nat.zero_le _, same_new hD, [], upd_same, .nil⟩, ?_⟩
  rintro i m H' ⟨rfl, hi, inv⟩
  have f3 : Fr S H' := f2.mono inv.1
  have jt := it S H' i f3 (offS_mono inv.1)
  rw [List.length_map] at jt
  by_cases hlt : i < as.length
  · obtain ⟨go, yl⟩ := jt.1 hlt
    refine .inr ⟨go, AccIs S H2 D ((as.take (i + 1)).flatMap G), fun H'' p' => ⟨as.length - (i + 1), by omega, rfl, hlt, p'⟩, fun x H'' y => ?_⟩
    have ha : as[i]? = some as[i] := List.getElem?_eq_getElem hlt
    obtain ⟨s3, acc, hacc, ra⟩ := inv
    have f4 : Fr (addS S D) H' := f3.add hacc trivial
    have s1 : Same (offS S H2) (offS (addS S D) H') := addS_new hDo (offS_mono s3)
    have jt2 := it (addS S D) H' i f4 s1
    rw [List.length_map] at jt2
    obtain ⟨s5, d, hd, rx⟩ := (jt2.1 hlt).2 x H'' y
    rw [List.getElem?_map, ha] at hd
    cases hd
    generalize hA : as[i] = a at rx
    have ham : a ∈ as := by rw [← hA]; exact List.getElem_mem hlt
    have f5 := f4.mono s5
    have e1 : (as.take (i + 1)).flatMap G = (as.take i).flatMap G ++ G a := by
      rw [take_more ha, List.flatMap_append, hA]
      simp
    have whole : ((as.take i).flatMap G ++ G a).length ≤ 90000 := by
      refine Nat.le_trans ?_ hz
      rw [← e1]
      have e2 : as = as.take (i + 1) ++ as.drop (i + 1) := (List.take_append_drop _ _).symm
      conv => rhs; rw [e2]
      rw [List.flatMap_append, List.length_append]
      exact Nat.le_add_right _ _
    refine ht a ham x (offS (addS S D) H'') ((sF.trans s1).trans (offS_mono s5)) rx (addS S D) H'' f5 (Same.refl _) _ fun σ2 ⟨w, hb, hj, he⟩ => ⟨w, hb (addS S D) H'' f5 (Same.refl _) _ fun H3 s6 => ?_⟩
    refine hj (addS S D) H3 (f5.mono s6) (offS_mono s6) _ fun J1 H4 s7 it1 => ?_
    have hacc4 := (s5.trans (s6.trans s7)) _ _ hacc
    have ra4 := ra.mono (offS_mono (S := addS S D) (s5.trans (s6.trans s7)))
    have f6 : Fr (addS S D) H4 := f5.mono (s6.trans s7)
    refine ⟨fun j k H' => k = (bs a).length - j ∧ j ≤ (bs a).length ∧ Same H2 H' ∧ Same (offS (addS S D) H4) (offS (addS S D) H') ∧ ∃ acc, H' D = some (.lst acc) ∧ RpA (offS (addS S D) H') acc ((as.take i).flatMap G ++ (((bs a).take j).filter (c a)).map (ev2 a)),
      ⟨(bs a).length, by simp, Nat.zero_le _, s3.trans (s5.trans (s6.trans s7)), Same.refl _, acc, hacc4, by simpa using ra4⟩, ?_⟩
    rintro j k H7 ⟨rfl, hj2, s8, s9, acc2, hacc2, ra2⟩
    have f7 : Fr (addS S D) H7 := (f2.mono s8).add hacc2 trivial
    have jt3 := it1 (addS S D) H7 j f7 s9
    rw [List.length_map] at jt3
    by_cases hjl : j < (bs a).length
    · obtain ⟨go1, yl1⟩ := jt3.1 hjl
      have hbj : (bs a)[j]? = some (bs a)[j] := List.getElem?_eq_getElem hjl
      refine .inr ⟨go1, fun H' => Same H2 H' ∧ Same (offS (addS S D) H4) (offS (addS S D) H') ∧ ∃ acc, H' D = some (.lst acc) ∧ RpA (offS (addS S D) H') acc ((as.take i).flatMap G ++ (((bs a).take (j + 1)).filter (c a)).map (ev2 a)), fun H'' p' => ⟨(bs a).length - (j + 1), by omega, rfl, hjl, p'⟩, fun y H8 yy => ?_⟩
      obtain ⟨s10, d, hd, ry⟩ := yl1 y H8 yy
      rw [List.getElem?_map, hbj] at hd
      cases hd
      have f8 := f7.mono s10
      have e3 : (bs a).take (j + 1) = (bs a).take j ++ [(bs a)[j]] := take_more hbj
      refine he _ (List.getElem_mem hjl) y (offS (addS S D) H8) ((offS_mono (s6.trans s7)).trans (s9.trans (offS_mono s10))) ry (addS S D) H8 f8 (Same.refl _) _ fun σ3 ⟨w3, hb3, he3⟩ => ⟨w3, hb3 (addS S D) H8 f8 (Same.refl _) _ fun H9 s11 => ?_⟩
      have hacc9 := (s10.trans s11) _ _ hacc2
      have ra9 := ra2.mono (offS_mono (S := addS S D) (s10.trans s11))
      have sn : Same (offS (addS S D) H4) (offS (addS S D) H9) := s9.trans (offS_mono (s10.trans s11))
      cases hc : c a (bs a)[j] with
      | false =>
        refine ⟨s8.trans (s10.trans s11), sn, acc2, hacc9, ?_⟩
        rw [e3, List.filter_append]
        have : [(bs a)[j]].filter (c a) = [] := by simp [hc]
        rw [this, List.append_nil]
        exact ra9
      | true =>
        have grow : (((bs a).take (j + 1)).filter (c a)).map (ev2 a) = (((bs a).take j).filter (c a)).map (ev2 a) ++ [ev2 a (bs a)[j]] := by
          rw [e3, List.filter_append, List.map_append]
          have : [(bs a)[j]].filter (c a) = [(bs a)[j]] := by simp [hc]
          rw [this]
          rfl
        refine he3 hc (addS S D) H9 (f8.mono s11) (offS_mono s11) _ fun y H10 s12 r10 => ⟨acc2, s12 _ _ hacc9, ?_, same_mut (s8.trans (s10.trans (s11.trans s12))) hD, (sn.trans (offS_mono s12)).trans addS_upd, _, upd_same, ?_⟩
        · have l1 := ra2.length
          have l2 : ((((bs a).take j).filter (c a)).map (ev2 a)).length ≤ (G a).length := by
            show _ ≤ (((bs a).filter (c a)).map (ev2 a)).length
            rw [List.length_map, List.length_map]
            have e4 : bs a = (bs a).take j ++ (bs a).drop j := (List.take_append_drop _ _).symm
            conv => rhs; rw [e4]
            rw [List.filter_append, List.length_append]
            omega
          rw [List.length_append] at l1 whole
          exact small9 (by omega)
        · rw [grow, ← List.append_assoc]
          exact ((ra9.mono (offS_mono s12)).mono addS_upd).append (.cons (r10.mono addS_upd) .nil)
    · refine .inl ⟨jt3.2 (by omega), s8, acc2, hacc2, ?_⟩
      have ej : j = (bs a).length := by omega
      rw [ej, List.take_length] at ra2
      rw [e1]
      exact ra2
  · refine .inl ⟨jt.2 (by omega), q _ _ (s2.trans inv.1) ?_⟩
    obtain ⟨s3, acc, hacc, ra⟩ := inv
    have ei : i = as.length := by omega
    rw [ei, List.take_length] at ra
    exact .lst (by rw [offS_at (f2.new hD)]; exact hacc) (ra.mono addS_off)
end
end
end Ca

set_option maxHeartbeats 4000000
namespace Ca
open PySem PySem.Spec PyProof.Rows L2
def enD : Nat → List PyData → List PyData
  | _, [] => []
  | n, d :: ds => .tuple [.int (n : Int), d] :: enD (n + 1) ds
theorem enD_len : ∀ (ds : List PyData) (n : Nat), (enD n ds).length = ds.length
  | [], _ => rfl
  | d :: ds, n => by
    show (enD (n + 1) ds).length + 1 = _
    rw [enD_len ds, List.length_cons]
theorem enD_get : ∀ (ds : List PyData) (n i : Nat) {d : PyData}, ds[i]? = some d → (enD n ds)[i]? = some (.tuple [.int ((n + i : Nat) : Int), d])
  | [], _, _, _, h => by simp at h
  | e :: ds, n, 0, d, h => by
    cases (show some e = some d from h)
    rfl
  | e :: ds, n, i + 1, d, h => by
    have := enD_get ds (n + 1) i (d := d) (by simpa using h)
    show (enD (n + 1) ds)[i]? = _
    rw [this]
    congr 4
    omega
section
variable {K : PySem.W.Frag} {σ : L2.St} {F : Hp} {ta te tl : TE} {tas : TA} {ds : List PyData}
theorem it_enum (h : EvA tas σ F [.list ds]) : ItP (iEnum K tas) σ F (enD 0 ds) := fun S H1 f s R r => h S H1 f s _ fun vs H2 s2 rv => by
  obtain ⟨v1, rfl, r1⟩ := rpa1 rv
  cases r1 with
  | @lst a xs _ ha rx =>
    refine ⟨a, xs, rfl, .inl (.inl (offS_same _ _ ha)), r _ H2 s2 fun S' H' i f' s' => ⟨fun hi => ?_, fun hi => ⟨xs, .inl (.inl (offS_same _ _ (s' _ _ ha))), by rw [rx.length]; rw [enD_len] at hi; exact hi⟩⟩⟩
    rw [enD_len] at hi
    have q := offS_same _ _ (s' _ _ ha)
    have hx : i < xs.length := by rw [rx.length]; exact hi
    refine ⟨⟨xs, xs[i], .inl (.inl q), by simp [hx]⟩, fun x H'' y => ?_⟩
    obtain ⟨T, x1, rfl, hT, rfl, y⟩ := y
    obtain ⟨d, hd, rd⟩ := rx.get (y xs (.inl (.inl q)))
    have := enD_get ds 0 i hd
    rw [Nat.zero_add] at this
    refine ⟨same_new hT, _, this, .tup ?_ (.cons (.int _) (.cons ((rd.mono s').mono (offS_mono (same_new hT))) .nil))⟩
    rw [offS_at (f'.new hT), upd_same]
section
variable {α : Type} {enc : α → PyData} {as : List α} {g : TG} {S : Addr → Bool} {H : Hp} {D : L2.Ends} {t u : TS} {wi : TI}
theorem go_forG (fr : Fr S H) (h : ItP wi σ (offS S H) (as.map enc)) (k : ∀ H1, Same H H1 → Fr S H1 → ∃ Pv : Nat → L2.St → Hp → Prop, Pv 0 σ H1 ∧
    (∀ i σ' H', Pv i σ' H' → Fr S H' ∧ Same (offS S H1) (offS S H')) ∧
    (∀ i a x σ' H' H'', as[i]? = some a → Pv i σ' H' → Same H' H'' → Rp (offS S H'') x (enc a) → g x σ' H'' fun σ2 H2 => t { D with nx := Pv (i + 1), ct := Pv (i + 1), bk := D.nx } σ2 H2) ∧
    (∀ σ' H', Pv as.length σ' H' → D.nx σ' H')) : tFor wi g t D σ H := h S H fr (Same.refl _) _ fun J H1 s1 it => by
  obtain ⟨Pv, p0, pk, ps, pd⟩ := k H1 s1 (fr.mono s1)
  refine ⟨fun i m σ' H' => m = as.length - i ∧ i ≤ as.length ∧ Pv i σ' H', ⟨as.length, by simp, Nat.zero_le _, p0⟩, ?_⟩
  rintro i m σ' H' ⟨rfl, hi, p⟩
  obtain ⟨f', s'⟩ := pk i σ' H' p
  have jt := it S H' i f' s'
  rw [List.length_map] at jt
  by_cases hlt : i < as.length
  · obtain ⟨go, yl⟩ := jt.1 hlt
    refine .inr ⟨go, Pv (i + 1), fun σ2 H2 p' => ⟨as.length - (i + 1), by omega, rfl, hlt, p'⟩, fun x H'' y => ?_⟩
    obtain ⟨s2, d, hd, rx⟩ := yl x H'' y
    have ha : as[i]? = some as[i] := List.getElem?_eq_getElem hlt
    rw [List.getElem?_map, ha] at hd
    cases hd
    exact ps i as[i] x σ' H' H'' ha p s2 rx
  · have e : i = as.length := by omega
    subst e
    exact .inl ⟨jt.2 (Nat.le_refl _), pd σ' H' p⟩
theorem go_forGS (fr : Fr S H) (h : ItP wi σ (offS S H) (as.map enc)) (k : ∀ H1, Same H H1 → Fr S H1 → ∃ Pv : Nat → L2.St → Hp → Prop, Pv 0 σ H1 ∧
    (∀ i σ' H', Pv i σ' H' → Fr S H' ∧ Same (offS S H1) (offS S H')) ∧
    (∀ i a x σ' H' H'', as[i]? = some a → Pv i σ' H' → Same H' H'' → Rp (offS S H'') x (enc a) → g x σ' H'' fun σ2 H2 => t { D with nx := Pv (i + 1), ct := Pv (i + 1), bk := u D } σ2 H2) ∧
    (∀ σ' H', Pv as.length σ' H' → u D σ' H')) : tSeq (tFor wi g t) u D σ H := go_forG (D := { D with nx := u D }) fr h k
end
/-! sorted of data -/
def srtD (ds : List PyData) : List PyData := ds.mergeSort (PySem.W.dataLe false id)
theorem zipV {H : Hp} : ∀ {xs : List V} {ds : List PyData}, RpA H xs ds → ∃ bs : List (V × PyData), bs.map Prod.fst = xs ∧ bs.map Prod.snd = ds ∧ ∀ b ∈ bs, Rp H b.1 b.2
  | _, _, .nil => ⟨[], rfl, rfl, fun b h => by cases h⟩
  | _, _, .cons (v := v) (d := d) h r => by
    obtain ⟨bs, e1, e2, e3⟩ := zipV r
    refine ⟨(v, d) :: bs, by rw [List.map_cons, e1], by rw [List.map_cons, e2], fun b hb => ?_⟩
    rcases List.mem_cons.mp hb with z | z
    · rw [z]
      exact h
    · exact e3 b z
theorem unzipV {H : Hp} : ∀ {bs : List (V × PyData)}, (∀ b ∈ bs, Rp H b.1 b.2) → RpA H (bs.map Prod.fst) (bs.map Prod.snd)
  | [], _ => .nil
  | b :: bs, h => .cons (h b (.head _)) (unzipV fun c hc => h c (.tail _ hc))
theorem srt_snd (bs : List (V × PyData)) : (sortD bs).map Prod.snd = srtD (bs.map Prod.snd) := PySem.W.sort_maps Prod.snd fun a _ b _ => rfl
theorem e_sortD (h : EvD ta σ F (.list ds)) (hal : PySem.W.AllAlike ds) (hso : PySem.W.Sortable ds) (hdp : ∀ d ∈ ds, d.depth ≤ 60) (hl : ds.length ≤ 1000) : EvD (tCB rSortD (tCons ta tNil)) σ F (.list (srtD ds)) := fun S H1 f s Q q =>
  h S H1 f s _ fun v H2 s2 r => by
    cases r with
    | @lst a xs _ ha rx =>
      obtain ⟨bs, rfl, rfl, rb⟩ := zipV rx
      rw [List.length_map] at hl
      refine ⟨a, bs, rfl, .inl (offS_same _ _ ha), fun b hb => (rb b hb).mono offS_same, hal, hso, fun b hb => hdp _ (List.mem_map.mpr ⟨b, hb, rfl⟩), Nat.le_of_lt (small1000 hl), fun p hp => q _ _ (s2.trans (same_new hp)) (.lst (offS_new (f.mono s2) hp) ?_)⟩
      rw [← srt_snd]
      refine RpA.mono (offS_mono (same_new hp)) (unzipV fun b hb => rb b ?_)
      unfold sortD at hb
      exact (List.mem_mergeSort.mp hb)
theorem srt_head {ds : List PyData} {d : PyData} {es : List PyData} (h : srtD ds = d :: es) : d ∈ ds ∧ ∀ e ∈ ds, PySem.W.dataLt e d = false := by
  have tot : PySem.W.TotalLe (PySem.W.dataLe false (id : PyData → PyData)) := PySem.W.sortLe_total _ _ _
  have pw := PySem.W.sort_pairwise tot ds
  have mem : ∀ e, e ∈ srtD ds ↔ e ∈ ds := fun e => List.mem_mergeSort
  refine ⟨(mem d).mp (by rw [h]; exact .head _), fun e he => ?_⟩
  have pw2 : (srtD ds).Pairwise (fun a b => PySem.W.dataLe false id a b = true) := pw
  rw [h, List.pairwise_cons] at pw2
  have le : PySem.W.dataLe false id d e = true := by
    rcases List.mem_cons.mp (by rw [← h]; exact (mem e).mpr he : e ∈ d :: es) with z | z
    · rw [z]
      exact tot.refl d
    · exact pw2.1 e z
  have : (!PySem.W.dataLt e d) = true := le
  simpa using this
end
end Ca

set_option maxHeartbeats 400000
namespace Ca
open PySem PySem.Spec PyProof.Rows L2
/-! dicts merged in a display: {**a, k: v, ..} -/
section
variable {P : Program} {w : World} {κ : Type} [DecidableEq κ] {knd : KeyKind P w κ} {A : Around} {E : Value → Shared → Prop} {s : Shared}
theorem put_pairs {d : Addr} {l : List (κ × Value)} {k : κ} {x v : Value} {Q : Unit → Shared → Prop} (hx : knd.is k x = true) (hm : s.heap.DictOf knd d l) (hz : l.length ≤ sizeLine)
    (q : ∀ h', h'.DictOf knd d (stored l k v) → Heap.SameBut d s.heap h' → Q () { s with heap := h' }) : wpAny (model P w) A (dictPut d (knd.hash k) x v) Q E s := by
  obtain ⟨ob, en, ec, ho, hc, hd, hk, hp, hn⟩ := hm
  have ls : en.size ≤ sizeLine := by
    have e1 := hp.length
    simp only [Array.length_toList] at e1
    omega
  unfold dictPut
  refine wpAny_bind (wpAny_dictFind_of hx ho hd hk ?_)
  have same : (en.findIdx? fun e => knd.is k e.key) = l.findIdx? fun kv => decide (kv.1 = k) := by
    rw [← hp.findIdx k]
    obtain ⟨r⟩ := en
    simp
  cases hi : (en.findIdx? fun e => knd.is k e.key) with
  | some i =>
    have yes : (l.any fun kv => decide (kv.1 = k)) = true := any_of_findIdx_some (same ▸ hi)
    have at_ : (en.toList.findIdx? fun e => knd.is k e.key) = some i := by
      rw [← hi]
      obtain ⟨r⟩ := en
      simp
    have md := hp.modify hn at_ v
    refine wpAny_updateDict ho hd (q _ ⟨_, _, ec, Heap.get?_update_self _ ho (Obj.isFreed_of_dict (Obj.data_mapDict hd _)), hc.mapDict _, Obj.data_mapDict hd _, hk.modify _ _, ?_, ?_⟩ (Heap.SameBut.update ..))
    · rw [stored, if_pos yes]
      obtain ⟨r⟩ := en
      simpa using md
    · rw [stored, if_pos yes, keys_map_store]
      exact hn
  | none =>
    have nk : k ∉ l.map (·.1) := not_mem_of_findIdx_none (same ▸ hi)
    have no : ¬ (l.any fun kv => decide (kv.1 = k)) = true := fun z => by
      obtain ⟨kv, hkv, he⟩ := List.any_eq_true.mp z
      exact nk (List.mem_map.mpr ⟨kv, hkv, of_decide_eq_true he⟩)
    have ap := hp.append hx (knd.hash k) v
    refine wpAny_updateDictKeys (hz := ls) ho hd (q _ ⟨_, _, ec + 1, Heap.get?_update_self _ ho (Obj.isFreed_of_dict (Obj.data_mapDictKeys hd _)), hc.mapDictKeys _, Obj.data_mapDictKeys hd _, hk.push hx _, ?_, ?_⟩ (Heap.SameBut.update ..))
    · rw [stored, if_neg no]
      obtain ⟨r⟩ := en
      simpa using ap
    · rw [stored, if_neg no, List.map_append, List.nodup_append]
      refine ⟨hn, by simp, fun a ha b hb e => ?_⟩
      rw [List.map_cons, List.map_nil, List.mem_singleton] at hb
      have hb : b = k := hb
      subst hb
      exact nk (e ▸ ha)
theorem merge_map {d a : Addr} {l m : List (κ × Value)} {Q : Unit → Shared → Prop} (nda : d ≠ a) (hs : (a == sysModules) = false) (hd : s.heap.DictOf knd d l) (ha : s.heap.DictOf knd a m) (hz : l.length + m.length ≤ sizeLine)
    (nr : ∀ k x, knd.is k x = true → ∀ b, x ≠ .ref b)
    (q : ∀ h', h'.DictOf knd d (merged l m) → Heap.SameBut d s.heap h' → Q () { s with heap := h' }) : wpAny (model P w) A (mergeMapping d (.ref a) false) Q E s := by
  obtain ⟨od, dd, pd, gd, cd, fd, kd, qd, nd⟩ := id hd
  obtain ⟨oa, da, pa, ga, ca, fa, ka, qa, na⟩ := id ha
  have la : m.length = da.size := by
    rw [← qa.length, Array.length_toList]
  unfold mergeMapping
  refine wpAny_bind (wpAny_isInstance (T := "dict") (b := true) ha.typeIs (by kernel_rfl) ?_)
  rw [if_pos rfl]
  refine wpAny_bind (wpAny_specialOf (T := "dict") (r := some (.builtin "dict.__iter__")) ha.typeIs (by kernel_rfl) ?_)
  refine wpAny_bind (wpAny_pure ?_)
  show wpAny _ _ (if (a == sysModules) = true then _ else _) _ _ _
  rw [hs, if_neg (by decide)]
  refine wpAny_bind (wpAny_dictEntries gd fd ?_)
  have main : wpAny (model P w) A (do
      let e0 ← dictEntries a
      let epoch ← dictEpoch a
      forIn (List.range e0.size) PUnit.unit fun i _ => (do
          let e1 ← dictEntries a
          match e1[i]? with
            | some e => do
              holding [e.key, e.val] (dictPut d e.hash e.key e.val)
              let e2 ← dictEpoch a
              if (e2 != epoch) = true then do
                  (unsupported "dict.changed-during-merge" : Sem PUnit)
                  pure (.yield PUnit.unit)
                else pure (.yield PUnit.unit)
            | _ => do
              (unsupported "dict.changed-during-merge" : Sem PUnit)
              pure (.yield PUnit.unit) : Sem (ForInStep PUnit))
      pure ()) Q E s := by
    refine wpAny_bind (wpAny_dictEntries ga fa (wpAny_bind (wpAny_dictEpoch ga fa (wpAny_bind ?_))))
    rw [List.range_eq_range']
    refine wpAny_forIn_list _ (fun rest _ t => ∃ h i, t = { s with heap := h } ∧ rest = List.range' i (da.size - i) ∧ i ≤ da.size ∧ h.DictOf knd d (merged l (m.take i)) ∧ h.get? a = some oa ∧ Heap.SameBut d s.heap h) _ ?_ ?_ _ _
      ⟨s.heap, 0, rfl, by simp, Nat.zero_le _, by simpa [merged] using hd, ga, Heap.SameBut.refl _ _⟩
    · rintro x rest b t ⟨h, i, rfl, hr, hi, hd', ga', hs'⟩
      have lt : i < da.size := by
        rcases Nat.lt_or_ge i da.size with z | z
        · exact z
        · rw [Nat.sub_eq_zero_of_le z] at hr
          cases hr
      have e1 : da.size - i = (da.size - (i + 1)) + 1 := by omega
      rw [e1, List.range'_succ] at hr
      injection hr with h1 h2
      subst h1 h2
      refine wpAny_bind (wpAny_dictEntries ga' fa ?_)
      rw [Array.getElem?_eq_getElem lt]
      have mi : m[x]? = some (m[x]'(by rw [la]; exact lt)) := List.getElem?_eq_getElem _
      generalize m[x]'(by rw [la]; exact lt) = kv at mi
      obtain ⟨k, v⟩ := kv
      obtain ⟨hk1, hv1⟩ := qa.get? (e := da[x]) (by simp [lt]) mi
      obtain ⟨k', hk2, hh⟩ := ka da[x] (Array.getElem_mem lt)
      have ek : k' = k := knd.inj _ _ _ hk2 hk1
      subst ek
      have mz : (merged l (m.take x)).length ≤ sizeLine := by
        have z1 := merged_length_le l (m.take x)
        rw [List.length_take] at z1
        omega
      show wpAny _ _ (holding [da[x].key, da[x].val] (dictPut d da[x].hash da[x].key da[x].val) >>= _) _ _ _
      rw [hh, hv1]
      refine wpAny_bind (wpAny_holding (put_pairs hk1 hd' mz fun h3 hd3 hs3 => ?_))
      have ga3 : h3.get? a = some oa := (hs3.2 a (Ne.symm nda)).trans ga'
      refine wpAny_bind (wpAny_dictEpoch ga3 fa ?_)
      rw [if_neg (by simp)]
      refine wpAny_pure ⟨h3, x + 1, rfl, rfl, lt, ?_, ga3, hs'.trans hs3⟩
      rw [merged_take_succ l m x (k', v) mi]
      exact hd3
    · rintro b t ⟨h, i, rfl, hr, hi, hd', ga', hs'⟩
      have e : i = da.size := by
        have := congrArg List.length hr
        rw [List.length_range'] at this
        simp at this
        omega
      subst e
      rw [← la, List.take_length] at hd'
      exact wpAny_pure (q h hd' hs')
  by_cases em : dd.isEmpty = true
  · rw [if_pos em]
    refine wpAny_bind (wpAny_dictEntries ga fa (wpAny_bind ?_))
    rw [← Array.forIn_toList]
    refine wpAny_forIn_list _ (fun rest _ t => t = s ∧ ∀ e ∈ rest, e ∈ da.toList) _ ?_ ?_ _ _ ⟨rfl, fun e he => he⟩
    · rintro x rest b t ⟨rfl, hin⟩
      obtain ⟨k', hk2, hh⟩ := ka x (Array.mem_toList_iff.mp (hin x (.head _)))
      have nn := nr k' x.key hk2
      have y : wpAny (model P w) A (pure (ForInStep.yield PUnit.unit) : Sem (ForInStep PUnit)) (fun r s' => match r with | .yield _ => s' = t ∧ ∀ e ∈ rest, e ∈ da.toList | .done _ => False) E t := wpAny_pure ⟨rfl, fun e he => hin e (.tail _ he)⟩
      split
      · rename_i b' hb'
        exact absurd hb' (nn b')
      · exact wpAny_pure ⟨rfl, fun e he => hin e (.tail _ he)⟩
    · rintro b t ⟨rfl, _⟩
      exact main
  · rw [if_neg em]
    exact main
end
end Ca

set_option maxHeartbeats 400000
namespace Ca
open PySem PySem.Spec PyProof.Rows L2
theorem gather_some {d : Addr} (f : (Option (Sem Value) × Sem Value) → (Option Addr × List (Sem Value × Sem Value)) → Sem (ForInStep (Option Addr × List (Sem Value × Sem Value))))
    (hf : ∀ (p : Sem Value × Sem Value) (run : List (Sem Value × Sem Value)), run.length + 1 < 17 → f (some p.1, p.2) (some d, run) = pure (.yield (some d, run ++ [p]))) :
    ∀ (items run : List (Sem Value × Sem Value)), run.length + items.length < 17 → forIn (items.map fun p => (some p.1, p.2)) ((some d : Option Addr), run) f = pure (some d, run ++ items)
  | [], run, _ => by simp
  | p :: rest, run, h => by
    rw [List.length_cons] at h
    rw [List.map_cons, List.forIn_cons, hf p run (by omega), pure_bind]
    have := gather_some f hf rest (run ++ [p]) (by simp only [List.length_append, List.length_cons, List.length_nil]; omega)
    simpa using this
section
variable {P : Program} {w : World} {κ : Type} [DecidableEq κ] {knd : KeyKind P w κ} {A : Around} {E : Value → Shared → Prop} {s : Shared}
theorem disp_star {m : Sem Value} {pairs : List (Sem Value × Sem Value)} {Q : Value → Shared → Prop} (h0 : pairs ≠ []) (h15 : pairs.length ≤ 15) (nr : ∀ k x, knd.is k x = true → ∀ b, x ≠ .ref b)
    (h : wpAny (model P w) A m (fun mv s1 => ∃ a l, mv = .ref a ∧ s.heap.objs.size ≠ a ∧ (a == sysModules) = false ∧ s1.heap.DictOf knd s.heap.objs.size [] ∧ s1.heap.DictOf knd a l ∧ l.length ≤ sizeLine ∧
      ∀ h1, h1.DictOf knd s.heap.objs.size (merged [] l) → Heap.SameBut s.heap.objs.size s1.heap h1 → wpAny (model P w) A (subDict pairs) (fun b s2 => s.heap.objs.size ≠ b ∧ (b == sysModules) = false ∧ ∃ l1 l2, s2.heap.DictOf knd s.heap.objs.size l1 ∧ s2.heap.DictOf knd b l2 ∧ l1.length + l2.length ≤ sizeLine ∧
        ∀ h3, h3.DictOf knd s.heap.objs.size (merged l1 l2) → Heap.SameBut s.heap.objs.size s2.heap h3 → Q (.ref s.heap.objs.size) { s2 with heap := h3 }) E { s1 with heap := h1 }) E { s with heap := s.heap.push { cls := .type "dict", data := .dict #[] } }) :
    wpAny (model P w) A (dictDisplay ((none, m) :: pairs.map fun p => (some p.1, p.2))) Q E s := by
  unfold dictDisplay
  dsimp only
  rw [List.forIn_cons]
  dsimp only
  refine wpAny_bind (wpAny_bind (wpAny_bind ?_))
  rw [if_pos (by rfl)]
  refine wpAny_pure ?_
  dsimp only
  refine wpAny_bind (wpAny_alloc (wpAny_bind (wpAny_holding (wpAny_mono h (fun mv s1 z => ?_) fun _ _ e => e))))
  obtain ⟨a, l, rfl, na, sa, hd, ha, lz, go⟩ := z
  refine wpAny_bind (wpAny_onRaise (wpAny_tryCatch (wpAny_onRaise (wpAny_holding (merge_map na sa hd ha (by rw [List.length_nil]; omega) nr fun h1 hd1 sb1 => ?_)))))
  refine wpAny_pure ?_
  dsimp only
  rw [gather_some _ (fun p run hl => by
    have n17 : ((run ++ [(p.1, p.2)]).length == 17) = false := by
      simp only [List.length_append, List.length_cons, List.length_nil, beq_eq_false_iff_ne]
      omega
    simp only [n17, Bool.false_eq_true, if_false]) pairs [] (by simp only [List.length_nil]; omega)]
  refine wpAny_pure ?_
  dsimp only
  rw [List.nil_append]
  have ne : pairs.isEmpty = false := by
    cases pairs with
    | nil => exact absurd rfl h0
    | cons p ps => rfl
  refine wpAny_bind ?_
  rw [ne, if_neg (by decide)]
  refine wpAny_bind (wpAny_holding (wpAny_mono (go h1 hd1 sb1) (fun b s2 z => ?_) fun _ _ e => e))
  obtain ⟨nb, sb, l1, l2, hd2, hb2, lz2, fin⟩ := z
  refine wpAny_bind (wpAny_onRaise (wpAny_holding (merge_map nb sb hd2 hb2 lz2 nr fun h3 hd3 sb3 => ?_)))
  exact wpAny_pure (wpAny_pure (fin h3 hd3 sb3))
end
end Ca

set_option maxHeartbeats 400000
namespace Ca
open PySem PySem.Spec PyProof.Rows L2
theorem mix_nr {P : Program} {w : World} : ∀ (k : Key) (x : Value), (mixKind P w).is k x = true → ∀ b, x ≠ .ref b := fun k x h b e => by
  subst e
  cases k <;> cases h
/-- {**e, k: v, ..} with keys ints and texts -/
def tDispS (ta : TE) (trs : List (TE × TE)) : TE := fun σ H Q => ∀ p, H p = none → ta σ (upd H p (.dK [])) fun mv H1 => ∃ a kvs, mv = .ref a ∧ p ≠ a ∧ H1 a = some (.dK kvs) ∧ H1 p = some (.dK []) ∧ kvs.length ≤ 1000 ∧
  ∀ p2, upd H1 p (.dK kvs) p2 = none → tPairs trs σ (upd (upd H1 p (.dK kvs)) p2 (.dK [])) fun ps H2 => H2 p = some (.dK kvs) ∧ H2 p2 = some (.dK []) ∧ ∃ more : List (Key × V), ps = more.map (fun kv => (kV kv.1, kv.2)) ∧ more.length ≤ 15 ∧
    Q (.ref p) (upd (upd H2 p2 (.dK (mergeK [] more))) p (.dK (mergeK kvs (mergeK [] more))))
theorem pe_dispS {X : Cx} {pos : Pos} {e0 : Expr} {keys : List (Option Expr)} {values : List Expr} {ta : TE} {trs : List (TE × TE)} (h0 : PE X e0 ta) (h : PPs X pos keys values trs) (hall : keys.all (·.isSome) = true) (hl : keys.length = values.length) (hne : keys ≠ [])
    (h15 : keys.length ≤ 15) : PE X (.Dict (none :: keys) (e0 :: values) pos) (tDispS ta trs) := by
  refine ⟨fun pins s σ H Q I q => ?_⟩
  have n0 := I.hok.fresh (Nat.le_refl s.heap.objs.size)
  have J0 := I.laid (a := s.heap.objs.size) (o := .dK []) (h' := s.heap.push { cls := .type "dict", data := .dict #[] }) (t' := s.toks) (fun _ _ q => Heap.get?_push_of_some _ q) (Nat.le_refl _) (dk_empty s.heap I.big)
  have lp := pairTrees_length keys values X.env pos hall hl
  have shape : (evalEachOpt (none :: keys) X.env).zip ((evalEach (e0 :: values) X.env).map fun v => do let x ← v; standAt pos; pure x) = (none, do let x ← eval e0 X.env; standAt pos; pure x) :: (pairTrees keys values X.env pos).map fun p => (some p.1, p.2) := by
    show (none, _) :: _ = _
    rw [← zip_pairTrees keys values X.env pos hall hl]
    rfl
  rw [arm_eval_Dict, shape]
  refine wpAny_bind (wpAny_standAt (disp_star (knd := mixKind X.prog X.w) (fun z => hne (List.length_eq_zero_iff.mp (by rw [← lp, z]; rfl))) (by rw [lp]; exact h15) mix_nr ?_))
  refine wpAny_bind (thn (h0.run pins _ σ _ _ J0 (q _ n0)) fun u s1 ⟨mv, H1, J1, r1, a, kvs, em, npa, e1a, e1p, lz, q1⟩ => wpAny_bind (wpAny_standAt (wpAny_pure ?_)))
  subst em
  cases (show u = Value.ref a from r1)
  obtain ⟨za, hda, va, rva, dda⟩ := dk_of J1.hok e1a
  obtain ⟨zp, hdp, vp, rvp, ddp⟩ := dk_of J1.hok e1p
  cases rvp
  have lva : kvs.length = va.length := Paired.length rva
  refine ⟨a, va, rfl, npa, hda, ddp, dda, by omega, fun h1 dd1 hs1 => ?_⟩
  have nda : (va.map (·.1)).Nodup := by
    obtain ⟨_, _, _, _, _, _, _, _, n⟩ := dda
    exact n
  rw [merged_nil_of_nodup va nda] at dd1
  have J2 : Inv X pins σ (upd H1 s.heap.objs.size (.dK kvs)) { s1 with heap := h1 } := d_write J1 (by rw [e1p]; exact True.intro) hs1 (let ⟨q, _, _, hq, _⟩ := dd1; ⟨q, hq⟩) (dk_new za hdp rva dd1)
  have hn2 := J2.hok.fresh (Nat.le_refl h1.objs.size)
  have J3 := J2.laid (a := h1.objs.size) (o := .dK []) (h' := h1.push { cls := .type "dict", data := .dict #[] }) (t' := s1.toks) (fun _ _ q => Heap.get?_push_of_some _ q) (Nat.le_refl _) (dk_empty h1 J2.big)
  have npp : s.heap.objs.size ≠ h1.objs.size := fun z => by
    rw [← z, upd_same] at hn2
    cases hn2
  refine wpAny_subDict (knd := mixKind X.prog X.w) (by rw [lp]; exact h15) (thn (h.run pins _ σ _ _ J3 (q1 _ hn2)) fun ws s2 ⟨ps, H2, J4, rel, e2p, e2q, more, ep, lm, q2⟩ => ?_)
  subst ep
  obtain ⟨es, c, rk⟩ := carries_of (P := X.prog) (w := X.w) rel
  obtain ⟨z4, hd4, v4, r4, dd4⟩ := dk_of J4.hok e2q
  cases r4
  refine ⟨es, c, dd4, fun h3 dd3 hs3 => ?_⟩
  have hz3 : (mergeK [] more).length ≤ 15 := by
    have z1 := length_mergeK more []
    rw [List.length_nil] at z1
    omega
  have big : 1015 ≤ sizeLine := by rw [sizeLine_eq]; omega
  have J5 : Inv X pins σ (upd H2 h1.objs.size (.dK (mergeK [] more))) { s2 with heap := h3, toks := s2.toks + ws.length } := d_write J4 (by rw [e2q]; exact True.intro) hs3 (let ⟨q, _, _, hq, _⟩ := dd3; ⟨q, hq⟩) (dk_new (by omega) hd4 (rk.merge .nil) dd3)
  have e5p : upd H2 h1.objs.size (.dK (mergeK [] more)) s.heap.objs.size = some (.dK kvs) := by rw [upd_ne npp]; exact e2p
  obtain ⟨z5, hd5, v5, r5, dd5⟩ := dk_of J5.hok e5p
  obtain ⟨z6, hd6, v6, r6, dd6⟩ := dk_of J5.hok upd_same
  have l5 : kvs.length = v5.length := Paired.length r5
  have l6 : (mergeK [] more).length = v6.length := Paired.length r6
  refine ⟨npp, hd6, v5, v6, dd5, dd6, by omega, fun h7 dd7 hs7 => ⟨.ref s.heap.objs.size, _, ?_, rfl, q2⟩⟩
  have lz7 : (mergeK kvs (mergeK [] more)).length ≤ sizeLine := by
    have := length_mergeK (mergeK [] more) kvs
    omega
  exact d_write J5 (by rw [e5p]; exact True.intro) hs7 (let ⟨q, _, _, hq, _⟩ := dd7; ⟨q, hq⟩) (dk_new lz7 hd5 (r6.merge r5) dd7)
end Ca

set_option maxHeartbeats 400000
namespace Ca
open PySem PySem.Spec PyProof.Rows L2
/-! dicts from ints to ints, as data -/
def valI (ns : List (Int × Int)) (k : Int) : Option Int := (ns.find? fun p => decide (p.1 = k)).map (·.2)
def putI (ns : List (Int × Int)) (k v : Int) : List (Int × Int) := if (ns.any fun p => decide (p.1 = k)) = true then ns.map (fun p => if p.1 = k then (p.1, v) else p) else ns ++ [(k, v)]
def mergeI (ns ms : List (Int × Int)) : List (Int × Int) := ms.foldl (fun acc p => putI acc p.1 p.2) ns
theorem any_iK (ns : List (Int × Int)) (k : Int) : ((ns.map iK).any fun kv => decide (kv.1 = Sum.inl k)) = ns.any fun p => decide (p.1 = k) := by
  rw [List.any_map]
  congr 1
  funext p
  show decide ((Sum.inl p.1 : Key) = Sum.inl k) = _
  simp
theorem val_iK (k : Int) : ∀ ns : List (Int × Int), valV (ns.map iK) (.inl k) = (valI ns k).map V.int
  | [] => rfl
  | p :: ns => by
    rw [List.map_cons]
    by_cases e : p.1 = k
    · rw [valV_pos (show (iK p).1 = Sum.inl k by unfold iK; rw [e])]
      unfold valI
      rw [List.find?_cons_of_pos (by simp [e])]
      rfl
    · rw [valV_neg (fun z => e (by unfold iK at z; exact Sum.inl.inj z)), val_iK k ns]
      unfold valI
      rw [List.find?_cons_of_neg (by simp [e])]
theorem put_iK (ns : List (Int × Int)) (k v : Int) : putK (ns.map iK) (.inl k) (.int v) = (putI ns k v).map iK := by
  unfold putK putI
  rw [any_iK]
  by_cases c : (ns.any fun p => decide (p.1 = k)) = true
  · rw [if_pos c, if_pos c, List.map_map, List.map_map]
    refine List.map_congr_left fun p _ => ?_
    show (if (Sum.inl p.1 : Key) = Sum.inl k then ((Sum.inl p.1 : Key), V.int v) else iK p) = iK (if p.1 = k then (p.1, v) else p)
    by_cases e : p.1 = k
    · rw [if_pos e, if_pos (by rw [e])]
      rfl
    · rw [if_neg e, if_neg fun z => e (Sum.inl.inj z)]
  · rw [if_neg c, if_neg c, List.map_append]
    rfl
theorem merge_iK : ∀ (ms ns : List (Int × Int)), mergeK (ns.map iK) (ms.map iK) = (mergeI ns ms).map iK
  | [], ns => rfl
  | p :: ms, ns => by
    have e : mergeK (ns.map iK) ((p :: ms).map iK) = mergeK (putK (ns.map iK) (.inl p.1) (.int p.2)) (ms.map iK) := rfl
    rw [e, put_iK, merge_iK ms (putI ns p.1 p.2)]
    rfl
theorem rp_dic {S : Addr → Bool} {H : Hp} {v : V} {ns : List (Int × Int)} (r : Rp (offS S H) v (.dict (ns.map iD))) : ∃ a, v = .ref a ∧ offS S H a = some (.dK (ns.map iK)) := by
  generalize hd : PyData.dict (ns.map iD) = d at r
  cases r with
  | @dic a ms h =>
    have e : ns = ms := by
      injection hd with hd
      exact List.map_inj_right (fun x y h => by
        unfold iD at h
        injection h with h1 h2
        injection h1 with h1
        injection h2 with h2
        exact Prod.ext h1 h2) |>.mp hd
    subst e
    exact ⟨a, rfl, h⟩
  | _ => cases hd
section
variable {σ : L2.St} {F : Hp} {ta tb tc td tk1 tv1 tk2 tv2 : TE}
theorem e_dispS {ns : List (Int × Int)} {k1 v1 k2 v2 : Int} (h0 : EvD ta σ F (.dict (ns.map iD))) (hz : ns.length ≤ 1000) (h1 : EvD tk1 σ F (.int k1)) (g1 : EvD tv1 σ F (.int v1)) (h2 : EvD tk2 σ F (.int k2)) (g2 : EvD tv2 σ F (.int v2)) :
    EvD (tDispS ta [(tk1, tv1), (tk2, tv2)]) σ F (.dict ((mergeI ns (mergeI [] [(k1, v1), (k2, v2)])).map iD)) := fun S H1 f sm Q q p hp => by
  have s1 := same_new (o := .dK []) hp
  have f1 : Fr (addS S p) (upd H1 p (.dK [])) := (f.mono s1).add upd_same trivial
  have e1 : upd H1 p (.dK []) p = some (.dK []) := upd_same
  have po : offS S H1 p = none := by
    rw [offS_at (f.new hp)]
    exact hp
  have sA : Same (offS S H1) (offS (addS S p) (upd H1 p (.dK []))) := addS_new po (offS_mono s1)
  generalize upd H1 p (.dK []) = H2 at s1 f1 e1 sA ⊢
  refine h0 (addS S p) H2 f1 (sm.trans sA) _ fun mv H3 s3 r3 => ?_
  obtain ⟨a, rfl, ha⟩ := rp_dic r3
  have npa : p ≠ a := fun z => by
    rw [← z] at ha
    unfold offS at ha
    rw [if_pos (by unfold addS; simp)] at ha
    cases ha
  refine ⟨a, ns.map iK, rfl, npa, offS_same _ _ ha, s3 _ _ e1, by rw [List.length_map]; exact hz, fun p2 hp2 => ?_⟩
  have npp : p ≠ p2 := fun z => by
    rw [← z, upd_same] at hp2
    cases hp2
  have hp3 : H3 p2 = none := by
    rw [upd_ne (Ne.symm npp)] at hp2
    exact hp2
  -- the heap with p full and p2 empty
  have s13 : Same H1 H3 := s1.trans s3
  have s4 : Same H1 (upd (upd H3 p (.dK (ns.map iK))) p2 (.dK [])) := fun b o e => by
    have nb : b ≠ p := ne_of_none e hp
    have nb2 : b ≠ p2 := ne_of_none (s13 _ _ e) hp3
    rw [upd_ne nb2, upd_ne nb]
    exact s13 _ _ e
  have e4p : upd (upd H3 p (.dK (ns.map iK))) p2 (.dK []) p = some (.dK (ns.map iK)) := by rw [upd_ne npp, upd_same]
  have e4q : upd (upd H3 p (.dK (ns.map iK))) p2 (.dK []) p2 = some (.dK []) := upd_same
  have f4 : Fr (addS (addS S p) p2) (upd (upd H3 p (.dK (ns.map iK))) p2 (.dK [])) := by
    refine Fr.add (fun b hb => ?_) e4q trivial
    by_cases z : b = p
    · rw [z]
      exact ⟨_, e4p, trivial⟩
    · obtain ⟨o, eo, mo⟩ := (f1.mono s3) b hb
      have nb2 : b ≠ p2 := ne_of_none eo hp3
      exact ⟨o, by rw [upd_ne nb2, upd_ne z]; exact eo, mo⟩
  have sB : Same (offS S H1) (offS (addS (addS S p) p2) (upd (upd H3 p (.dK (ns.map iK))) p2 (.dK []))) := fun b o e => by
    have hb : S b = false := by
      cases z : S b with
      | false => rfl
      | true =>
        unfold offS at e
        rw [if_pos z] at e
        cases e
    rw [offS_at hb] at e
    have nb : b ≠ p := ne_of_none e hp
    have nb2 : b ≠ p2 := ne_of_none (s13 _ _ e) hp3
    have z : addS (addS S p) p2 b = false := by
      unfold addS
      rw [hb, decide_eq_false nb, decide_eq_false nb2]
      rfl
    rw [offS_at z]
    exact s4 _ _ e
  generalize upd (upd H3 p (.dK (ns.map iK))) p2 (.dK []) = H4 at s4 e4p e4q f4 sB ⊢
  have smB := sm.trans sB
  refine h1 _ H4 f4 smB _ fun x1 H5 s5 r5 => g1 _ H5 (f4.mono s5) (smB.trans (offS_mono s5)) _ fun y1 H6 s6 r6 => h2 _ H6 (f4.mono (s5.trans s6)) (smB.trans (offS_mono (s5.trans s6))) _ fun x2 H7 s7 r7 => g2 _ H7 (f4.mono ((s5.trans s6).trans s7)) (smB.trans (offS_mono ((s5.trans s6).trans s7))) _ fun y2 H8 s8 r8 => ?_
  cases r5
  cases r6
  cases r7
  cases r8
  have s48 : Same H4 H8 := ((s5.trans s6).trans s7).trans s8
  show H8 p = some (.dK (ns.map iK)) ∧ _
  refine ⟨s48 _ _ e4p, s48 _ _ e4q, [(k1, v1), (k2, v2)].map iK, rfl, by simp, ?_⟩
  have e0 : ([] : List (Key × V)) = ([] : List (Int × Int)).map iK := rfl
  rw [e0, merge_iK, merge_iK]
  refine q _ _ (fun b o e => ?_) (.dic (ns := mergeI ns (mergeI [] [(k1, v1), (k2, v2)])) ?_)
  · have nb : b ≠ p := ne_of_none e hp
    have nb2 : b ≠ p2 := ne_of_none (s13 _ _ e) hp3
    rw [upd_ne nb, upd_ne nb2]
    exact s48 _ _ (s4 _ _ e)
  · rw [offS_at (f.new hp)]
    exact upd_same
theorem e_dget2 {ns : List (Int × Int)} {k v : Int} (h : EvD td σ F (.dict (ns.map iD))) (hk : EvD ta σ F (.int k)) (hv : EvD tb σ F (.int v)) : EvD (tDGet2 td ta tb) σ F (.int ((valI ns k).getD v)) := fun S H1 f s Q q =>
  h S H1 f s _ fun x H2 s2 r => by
    obtain ⟨a, rfl, ha⟩ := rp_dic r
    have ha2 := offS_same _ _ ha
    refine ⟨a, rfl, .inl ⟨_, .inl ha2⟩, hk S H2 (f.mono s2) (s.trans (offS_mono s2)) _ fun y H3 s3 ry => hv S H3 (f.mono (s2.trans s3)) (s.trans (offS_mono (s2.trans s3))) _ fun z H4 s4 rz => ?_⟩
    cases ry
    cases rz
    refine ⟨_, DGet.k (k := .inl k) ((s3.trans s4) _ _ ha2), ?_⟩
    rw [val_iK]
    have e : ((valI ns k).map V.int).getD (V.int v) = V.int ((valI ns k).getD v) := by
      cases valI ns k <;> rfl
    rw [e]
    exact q _ H4 ((s2.trans s3).trans s4) (.int _)
end
end Ca

set_option maxHeartbeats 400000
namespace Q
open PySem PySem.Spec PyProof.Rows L2 Ca
/-! ### agrees -/
abbrev s_ag : Stmt := top 44
abbrev nAg : List PySem.Str := ["chosen", "atom", "row", "kind", "left", "right"]
theorem sc_ag : FnScope nAg ["chosen", "atom", "row"] (defScope s_ag) := ⟨rfl, rfl, rfl, by decide +kernel, rfl, by decide +kernel, by decide +kernel⟩
/-- whether the atom k l r can name the row k2 l2 r2 -/
def agB (ns : List (Int × Int)) (k : PySem.Str) (l r : Int) (k2 : PySem.Str) (l2 r2 : Int) : Bool :=
  !((!decide (k2 = k)) || (decide (l = r) && !decide (l2 = r2))) && (decide ((valI ns l).getD l2 = l2) && decide ((valI ns r).getD r2 = r2))
def RAg : List PyData → PyData → Prop := fun ds d => ∃ (ns : List (Int × Int)) (k : PySem.Str) (l r : Int) (k2 : PySem.Str) (l2 r2 : Int) (rest : List PyData), ds = [.dict (ns.map iD), .tuple [.str k, .int l, .int r], .tuple (.str k2 :: .int l2 :: .int r2 :: rest)] ∧ d = .bool (agB ns k l r k2 l2 r2)
theorem go_asgT3 {K : PySem.W.Frag} {σ : L2.St} {te : TE} {S : Addr → Bool} {H : Hp} {D : L2.Ends} {u : TS} {i j l : Nat} {d1 d2 d3 : PyData} (f : Fr S H) (h : EvD te σ (offS S H) (.tuple [d1, d2, d3]))
    (k : ∀ v1 v2 v3 H', Same H H' → Fr S H' → Rp (offS S H') v1 d1 → Rp (offS S H') v2 d2 → Rp (offS S H') v3 d3 → u D (((σ.set i (some v1)).set j (some v2)).set l (some v3)) H') : tSeq (tAsg te (gTup K 3 (gCons (gName i) (gCons (gName j) (gCons (gName l) gNil))))) u D σ H :=
  h S H f (Same.refl _) _ fun v H' s r => gg_tup3 (f.mono s) r fun v1 v2 v3 r1 r2 r3 => k v1 v2 v3 H' s (f.mono s) r1 r2 r3
section
variable {P : Program} {w : World} {K : PySem.W.Frag} {mg : PySem.Str → Option Value} {base : Heap}
theorem ok_ag {f : Addr} {fd : FuncData} (F : FnP K "agrees" s_ag f fd) : FnOk P w K mg base CX0 1 f fd ["chosen", "atom", "row"] (spR RAg) := by
  refine F.ok sc_ag (spR_len (by rintro _ _ ⟨ns, k, l, r, k2, l2, r2, rest, rfl, _⟩; rfl)) (fun cdv A outer s H vs Q E hr h => ?_)
  obtain ⟨S, ds, d, fr, rA, ⟨ns, k, l, r, k2, l2, r2, rest, rfl, rfl⟩, q⟩ := h
  obtain ⟨v0, v1, v2, rfl, q0, q1, q2⟩ := rpa3 rA
  have hu : (A.deeper (envOfC "agrees" (defScope s_ag) s.heap.objs.size f cdv)).units + 1 < cLine := by
    have := hr.un
    omega
  refine ⟨_, PSs.nox (pss_cons (ps_asg (pv 1) (pg_tup (by rfl) (pgs_cons (pg_name (i := 3) sc_ag.nd rfl (.inl rfl)) (pgs_cons (pg_name (i := 4) sc_ag.nd rfl (.inl rfl)) (pgs_cons (pg_name (i := 5) sc_ag.nd rfl (.inl rfl)) pgs_nil)))))
    (pss_cons (ps_if (PW.pt (pw_or (pt_cmpR op_ne (pe_ix (ix_tup : IxR _ (rIxT K)) (pv 2) pe_int (fun _ _ => rfl)) (pv 3) (nomark _)) (pw_or1 (PW.pt (pw_and (pt_cmpR op_eq (pv 4) (pv 5) (nomark _)) (pw_and1 (pt_cmpR op_ne (pe_ix (ix_tup : IxR _ (rIxT K)) (pv 2) pe_int (fun _ _ => rfl)) (pe_ix (ix_tup : IxR _ (rIxT K)) (pv 2) pe_int (fun _ _ => rfl)) (nomark _)))))))) (pss_one (ps_ret pe_bl)) pss_nil)
    (pss_one (ps_ret (pe_and (pe_cmpR op_eq (pe_dget2 hu (pv 0) (pv 4) (pe_ix (ix_tup : IxR _ (rIxT K)) (pv 2) pe_int (fun _ _ => rfl)) ⟨rfl, rfl, rfl, rfl⟩) (pe_ix (ix_tup : IxR _ (rIxT K)) (pv 2) pe_int (fun _ _ => rfl)) (nomark _)) (pe_one (pe_cmpR op_eq (pe_dget2 hu (pv 0) (pv 5) (pe_ix (ix_tup : IxR _ (rIxT K)) (pv 2) pe_int (fun _ _ => rfl)) ⟨rfl, rfl, rfl, rfl⟩) (pe_ix (ix_tup : IxR _ (rIxT K)) (pv 2) pe_int (fun _ _ => rfl)) (nomark _)))))))), ?_⟩
  refine go_asgT3 fr (e_var rfl q1) fun w3 w4 w5 H1 s1 fr1 p3 p4 p5 => ?_
  cases p3
  cases p4
  cases p5
  have q01 := q0.mono (offS_mono (S := S) s1)
  have q21 := q2.mono (offS_mono (S := S) s1)
  refine go_ifS (b := (!decide (k2 = k)) || (decide (l = r) && !decide (l2 = r2))) fr1 (b_or (b_test (e_neS (e_ixT (n := 0) (e_var rfl q21) e_int rfl rfl) (e_var rfl (.str k)))) fun _ => b_and (b_test (e_eqI (e_var rfl (.int l)) (e_var rfl (.int r)))) fun _ => b_test (e_neI (e_ixT (n := 1) (e_var rfl q21) e_int rfl rfl) (e_ixT (n := 2) (e_var rfl q21) e_int rfl rfl))) (fun z H2 s2 f2 => ?_) fun z H2 s2 fr2 => ?_
  · refine q _ H2 (s1.trans s2) ?_
    unfold agB
    rw [z]
    exact .bl _
  · have q02 := q01.mono (offS_mono (S := S) s2)
    have q22 := q21.mono (offS_mono (S := S) s2)
    refine go_ret (P := fun H v => Rp H v (.bool (agB ns k l r k2 l2 r2))) fr2 (eqD (e_and (e_eqI (e_dget2 (e_var rfl q02) (e_var rfl (.int l)) (e_ixT (n := 1) (e_var rfl q22) e_int rfl rfl)) (e_ixT (n := 1) (e_var rfl q22) e_int rfl rfl)) fun _ => e_eqI (e_dget2 (e_var rfl q02) (e_var rfl (.int r)) (e_ixT (n := 2) (e_var rfl q22) e_int rfl rfl)) (e_ixT (n := 2) (e_var rfl q22) e_int rfl rfl)) ?_) fun v H3 s3 r3 => q v H3 (s1.trans (s2.trans s3)) r3
    unfold agB
    rw [z]
    rfl
end
end Q

namespace Q
/-! numbering, orders: mathematics -/
def fo : List Int → List Int → List Int
  | acc, [] => acc
  | acc, x :: l => if acc.contains x then fo acc l else fo (acc ++ [x]) l
theorem fo_app : ∀ (l m acc : List Int), fo acc (l ++ m) = fo (fo acc l) m
  | [], m, acc => rfl
  | x :: l, m, acc => by
    show (if acc.contains x then fo acc (l ++ m) else fo (acc ++ [x]) (l ++ m)) = fo (if acc.contains x then fo acc l else fo (acc ++ [x]) l) m
    split
    · exact fo_app l m acc
    · exact fo_app l m _
theorem fo_pre : ∀ (l acc : List Int), ∃ t, fo acc l = acc ++ t
  | [], acc => ⟨[], by simp [fo]⟩
  | x :: l, acc => by
    unfold fo
    split
    · exact fo_pre l acc
    · obtain ⟨t, e⟩ := fo_pre l (acc ++ [x])
      exact ⟨x :: t, by rw [e]; simp⟩
theorem fo_mem : ∀ (l acc : List Int) (k : Int), k ∈ fo acc l ↔ k ∈ acc ∨ k ∈ l
  | [], acc, k => by simp [fo]
  | x :: l, acc, k => by
    unfold fo
    split
    · rename_i h
      rw [fo_mem l acc k, List.mem_cons]
      constructor
      · rintro (z | z)
        · exact .inl z
        · exact .inr (.inr z)
      · rintro (z | z | z)
        · exact .inl z
        · subst z
          exact .inl (List.contains_iff_mem.mp h)
        · exact .inr z
    · rw [fo_mem l _ k, List.mem_append, List.mem_singleton, List.mem_cons]
      constructor
      · rintro ((z | z) | z)
        · exact .inl z
        · exact .inr (.inl z)
        · exact .inr (.inr z)
      · rintro (z | z | z)
        · exact .inl (.inl z)
        · exact .inl (.inr z)
        · exact .inr z
theorem fo_len : ∀ (l acc : List Int), (fo acc l).length ≤ acc.length + l.length
  | [], acc => by simp [fo]
  | x :: l, acc => by
    unfold fo
    split
    · have := fo_len l acc
      simp only [List.length_cons]
      omega
    · have := fo_len l (acc ++ [x])
      simp only [List.length_append, List.length_cons, List.length_nil] at this ⊢
      omega
theorem fo_map (f : Int → Int) : ∀ (l acc : List Int), (∀ x ∈ acc ++ l, ∀ y ∈ acc ++ l, f x = f y → x = y) → fo (acc.map f) (l.map f) = (fo acc l).map f
  | [], acc, _ => rfl
  | x :: l, acc, h => by
    have e : (acc.map f).contains (f x) = acc.contains x := by
      rw [Bool.eq_iff_iff, List.contains_iff_mem, List.contains_iff_mem, List.mem_map]
      constructor
      · rintro ⟨y, hy, ey⟩
        have := h y (by simp [hy]) x (by simp) ey
        rw [← this]
        exact hy
      · intro z
        exact ⟨x, z, rfl⟩
    show (if (acc.map f).contains (f x) then fo (acc.map f) (l.map f) else fo (acc.map f ++ [f x]) (l.map f)) = (if acc.contains x then fo acc l else fo (acc ++ [x]) l).map f
    rw [e]
    split
    · refine fo_map f l acc fun a ha b hb => h a ?_ b ?_
      · rcases List.mem_append.mp ha with z | z
        · exact List.mem_append_left _ z
        · exact List.mem_append_right _ (.tail _ z)
      · rcases List.mem_append.mp hb with z | z
        · exact List.mem_append_left _ z
        · exact List.mem_append_right _ (.tail _ z)
    · have := fo_map f l (acc ++ [x]) (by simpa using h)
      rw [List.map_append] at this
      exact this
def idx (kn : List Int) (x : Int) : Int := ((kn.idxOf x : Nat) : Int)
theorem idx_app {kn : List Int} {x : Int} (h : x ∈ kn) (t : List Int) : idx (kn ++ t) x = idx kn x := by
  unfold idx
  rw [List.idxOf_append, if_pos h]
theorem idx_map (f : Int → Int) : ∀ (kn : List Int) (x : Int), (∀ y ∈ kn, f y = f x → y = x) → idx (kn.map f) (f x) = idx kn x
  | [], x, _ => rfl
  | y :: kn, x, h => by
    have ih := idx_map f kn x fun z hz => h z (.tail _ hz)
    unfold idx at ih ⊢
    rw [List.map_cons, List.idxOf_cons, List.idxOf_cons]
    have e : (f y == f x) = (y == x) := by
      rw [Bool.eq_iff_iff, beq_iff_eq, beq_iff_eq]
      exact ⟨h y (.head _), fun z => by rw [z]⟩
    rw [e]
    cases hb : (y == x) with
    | true => rfl
    | false =>
      simp only [cond_false]
      have : (List.map f kn).idxOf (f x) = kn.idxOf x := by omega
      rw [this]
def numA (kn : List Int) (a : At) : At := ⟨a.k, idx kn a.l, idx kn a.r⟩
def num (as : List At) : List At := as.map (numA (fo [] (vars as)))
/-- numbered as they come -/
def cnt1 : List Int → List At → List At
  | _, [] => []
  | kn, a :: as => numA (fo kn [a.l, a.r]) a :: cnt1 (fo kn [a.l, a.r]) as
theorem cnt1_eq : ∀ (as : List At) (kn : List Int), cnt1 kn as = as.map (numA (fo kn (vars as)))
  | [], kn => rfl
  | a :: as, kn => by
    have ev : vars (a :: as) = [a.l, a.r] ++ vars as := rfl
    rw [List.map_cons, ev, fo_app]
    show numA (fo kn [a.l, a.r]) a :: cnt1 (fo kn [a.l, a.r]) as = _
    rw [cnt1_eq as (fo kn [a.l, a.r])]
    congr 1
    obtain ⟨t, e⟩ := fo_pre (vars as) (fo kn [a.l, a.r])
    rw [e]
    unfold numA
    rw [idx_app ((fo_mem _ _ _).mpr (.inr (by simp))), idx_app ((fo_mem _ _ _).mpr (.inr (by simp)))]
theorem cnt1_num (as : List At) : cnt1 [] as = num as := cnt1_eq as []
theorem mem_vars {as : List At} {k : Int} : k ∈ vars as ↔ ∃ a ∈ as, k = a.l ∨ k = a.r := by
  unfold vars
  rw [List.mem_flatMap]
  simp
theorem idx_bd {kn : List Int} {x : Int} (h : x ∈ kn) : 0 ≤ idx kn x ∧ idx kn x < kn.length := by
  unfold idx
  have := List.idxOf_lt_length_of_mem h
  omega
def rnm (f : Int → Int) (a : At) : At := ⟨a.k, f a.l, f a.r⟩
theorem vars_rnm (f : Int → Int) : ∀ as : List At, vars (as.map (rnm f)) = (vars as).map f
  | [] => rfl
  | a :: as => by
    show [f a.l, f a.r] ++ vars (as.map (rnm f)) = ([a.l, a.r] ++ vars as).map f
    rw [vars_rnm f as, List.map_append]
    rfl
theorem num_rnm (f : Int → Int) (as : List At) (h : ∀ x ∈ vars as, ∀ y ∈ vars as, f x = f y → x = y) : num (as.map (rnm f)) = num as := by
  unfold num
  rw [vars_rnm, List.map_map]
  have e : fo [] ((vars as).map f) = (fo [] (vars as)).map f := fo_map f (vars as) [] (by simpa using h)
  rw [e]
  refine List.map_congr_left fun a ha => ?_
  have hl : a.l ∈ vars as := mem_vars.mpr ⟨a, ha, .inl rfl⟩
  have hr : a.r ∈ vars as := mem_vars.mpr ⟨a, ha, .inr rfl⟩
  show (⟨a.k, idx _ (f a.l), idx _ (f a.r)⟩ : At) = ⟨a.k, idx _ a.l, idx _ a.r⟩
  rw [idx_map f _ a.l fun y hy z => h y (by simpa using (fo_mem _ _ _).mp hy) a.l hl z, idx_map f _ a.r fun y hy z => h y (by simpa using (fo_mem _ _ _).mp hy) a.r hr z]
/-! orders -/
section
variable {α : Type}
def insAll (a : α) (ps : List (List α)) : List (List α) := ps.flatMap fun o => (List.range (o.length + 1)).map fun i => o.take i ++ [a] ++ o.drop i
def ords : List (List α) → List α → List (List α)
  | ps, [] => ps
  | ps, a :: as => ords (insAll a ps) as
theorem ords_snoc : ∀ (as : List α) (ps : List (List α)) (a : α), ords ps (as ++ [a]) = insAll a (ords ps as)
  | [], ps, a => rfl
  | b :: as, ps, a => ords_snoc as (insAll b ps) a
theorem mem_insAll {a : α} {ps : List (List α)} {p : List α} : p ∈ insAll a ps ↔ ∃ s t, s ++ t ∈ ps ∧ p = s ++ a :: t := by
  unfold insAll
  rw [List.mem_flatMap]
  constructor
  · rintro ⟨o, ho, h⟩
    obtain ⟨i, hi, rfl⟩ := List.mem_map.mp h
    exact ⟨o.take i, o.drop i, by rw [List.take_append_drop]; exact ho, by simp⟩
  · rintro ⟨s, t, h, rfl⟩
    refine ⟨s ++ t, h, List.mem_map.mpr ⟨s.length, List.mem_range.mpr (by simp; omega), ?_⟩⟩
    simp
theorem ords_mem : ∀ (n : Nat) (as : List α), as.length = n → ∀ p, p ∈ ords [[]] as ↔ p.Perm as
  | 0, as, h, p => by
    have : as = [] := List.eq_nil_of_length_eq_zero h
    subst this
    simp [ords, List.perm_nil]
  | n + 1, as, h, p => by
    have hne : as ≠ [] := fun z => by rw [z] at h; cases h
    obtain ⟨bs, b, rfl⟩ : ∃ bs b, as = bs ++ [b] := ⟨as.dropLast, as.getLast hne, (List.dropLast_concat_getLast hne).symm⟩
    have hb : bs.length = n := by simpa using h
    rw [ords_snoc, mem_insAll]
    constructor
    · rintro ⟨s, t, hs, rfl⟩
      have := (ords_mem n bs hb _).mp hs
      exact (List.perm_middle.trans (this.cons b)).trans (List.perm_append_singleton b bs).symm
    · intro hp
      have hm : b ∈ p := hp.symm.subset (by simp)
      obtain ⟨s, t, rfl⟩ := List.append_of_mem hm
      refine ⟨s, t, (ords_mem n bs hb _).mpr ?_, rfl⟩
      have h1 : (b :: (s ++ t)).Perm (b :: bs) := List.perm_middle.symm.trans (hp.trans (List.perm_append_singleton b bs))
      exact (List.perm_cons b).mp h1
theorem ords_len : ∀ (as : List α) (ps : List (List α)) (k : Nat), (∀ p ∈ ps, p.length = k) → (∀ p ∈ ords ps as, p.length = k + as.length)
  | [], ps, k, h => by simpa [ords] using h
  | a :: as, ps, k, h => by
    intro p hp
    have := ords_len as (insAll a ps) (k + 1) (fun q hq => by
      obtain ⟨s, t, hs, rfl⟩ := mem_insAll.mp hq
      have := h _ hs
      simp only [List.length_append, List.length_cons] at this ⊢
      omega) p hp
    simp only [List.length_cons]
    omega
end
end Q
namespace Q
section
variable {α : Type}
/-- the orders as the law finds them -/
def ord2 : Nat → List α → List (List α)
  | 0, _ => [[]]
  | n + 1, as => (List.range as.length).flatMap fun i => match as[i]? with
    | some a => (ord2 n (as.take i ++ as.drop (i + 1))).map (a :: ·)
    | none => []
theorem ord2_mem : ∀ (n : Nat) (as : List α), as.length = n → ∀ p, p ∈ ord2 n as ↔ p.Perm as
  | 0, as, h, p => by
    have : as = [] := List.eq_nil_of_length_eq_zero h
    subst this
    simp [ord2, List.perm_nil]
  | n + 1, as, h, p => by
    unfold ord2
    rw [List.mem_flatMap]
    have hl : ∀ i, i < as.length → (as.take i ++ as.drop (i + 1)).length = n := fun i hi => by
      rw [List.length_append, List.length_take, List.length_drop]
      omega
    have hs : ∀ i (hi : i < as.length), as = as.take i ++ as[i] :: as.drop (i + 1) := fun i hi => by
      rw [← List.drop_eq_getElem_cons hi, List.take_append_drop]
    constructor
    · rintro ⟨i, hi, hp⟩
      have hi := List.mem_range.mp hi
      rw [List.getElem?_eq_getElem hi] at hp
      obtain ⟨q, hq, rfl⟩ := List.mem_map.mp hp
      have := (ord2_mem n _ (hl i hi) q).mp hq
      have h2 : as.Perm (as[i] :: (as.take i ++ as.drop (i + 1))) := by
        conv => lhs; rw [hs i hi]
        exact List.perm_middle
      exact (this.cons _).trans h2.symm
    · intro hp
      cases p with
      | nil =>
        have := hp.length_eq
        rw [h] at this
        cases this
      | cons x q =>
        have hm : x ∈ as := hp.subset (.head _)
        obtain ⟨i, hi, e⟩ := List.getElem_of_mem hm
        refine ⟨i, List.mem_range.mpr hi, ?_⟩
        rw [List.getElem?_eq_getElem hi]
        refine List.mem_map.mpr ⟨q, (ord2_mem n _ (hl i hi) q).mpr ?_, by rw [e]⟩
        have h2 : as.Perm (x :: (as.take i ++ as.drop (i + 1))) := by
          conv => lhs; rw [hs i hi]
          rw [e]
          exact List.perm_middle
        exact (List.perm_cons x).mp (hp.trans h2)
theorem flatMap_len {β : Type} {f : α → List β} {c : Nat} : ∀ {l : List α}, (∀ x ∈ l, (f x).length ≤ c) → (l.flatMap f).length ≤ l.length * c
  | [], _ => by simp
  | x :: l, h => by
    have h1 := h x (.head _)
    have h2 := flatMap_len (l := l) fun y hy => h y (.tail _ hy)
    rw [List.flatMap_cons, List.length_append, List.length_cons, Nat.add_mul]
    omega
end
end Q

set_option maxHeartbeats 4000000
namespace TQ
open PySem PySem.Spec PyProof.Rows L2
section
variable {X : Cx}
/-- set.add of a tuple of ints -/
theorem add_tup {pins : List (Addr × Obj)} {σ : L2.St} {H : Hp} {s : Shared} {E : Value → Shared → Prop} {D x : Addr} {k : List Int} {rs : List (Addr × List Int)} {u : Value} {Q : Value → Shared → Prop} (I : Inv X pins σ H s) (hu : X.A.units + 1 < cLine)
    (hD : H D = some (SetTO X.prog X.w D rs)) (few : rs.length + 1 < 64) (hx : H x = some (.tup (k.map V.int))) (hr : ∀ r ∈ rs, H r.1 = some (.tup (r.2.map V.int))) (ru : RelV (.ref x) u)
    (q : ∀ rs' s', (k ∈ rs.map (·.2) → rs' = rs) → (k ∉ rs.map (·.2) → rs'.Perm ((x, k) :: rs)) → Inv X pins σ (upd H D (SetTO X.prog X.w D rs')) s' → Q .none s') : wpAny (model X.prog X.w) X.A (call (.builtin "set.add") [.ref D, u]) Q E s := by
  cases ru
  have R0 : SetT0 X.prog X.w s.heap D rs := (I.hok D _ hD).1
  have kx : IsT X.prog X.w s.heap k x := I.isT (.inl (.inl hx))
  obtain ⟨es, ep, t, R⟩ := R0.full fun p hp => I.isT (.inl (.inl (hr p hp)))
  obtain ⟨o, at_, ex, dat⟩ := R.ob
  have ty : s.TypeIs (.ref D) "set" := ⟨o, at_, ex.1⟩
  refine wpAny_call_entry F.slot_set_add ty F.entry_set_add ?_ (F.args_set_add_2 _ _)
  unfold Builtin.«set.add» Builtin.Frozenset.oneOther
  simp only [List.isEmpty_nil, bind_assoc]
  unfold Builtin.Frozenset.addrOf setAdd
  refine wpAny_bind (wpAny_pure ?_)
  try dsimp only
  refine wpAny_bind (wpAny_pure ?_)
  try dsimp only
  refine wpAny_bind (wpAny_holding (wpAny_bind (wpAny_pyHash_tuple (A := X.A.in1) hu kx ?_)))
  refine add_at (s := { s with toks := s.toks + (k.length + 1) }) R kx hu few fun b h' rs' es' ep' t' sb R' c1 c2 => ?_
  show wpAny _ _ (ret Value.none) _ _ _
  refine wpAny_pure ⟨_, rfl, q rs' _ c1 c2 ?_⟩
  obtain ⟨o', at', _⟩ := R'.ob
  exact I.write (e := D) (t' := s.toks + (k.length + 1)) (by rw [hD]; trivial) (.inl rfl) (fun b u hb e => (sb.2 b hb).trans e) ⟨o', at'⟩ (setTO_new R'.t0)
/-- {elt for .. in .. if ..}, elt a tuple of ints: D the new set -/
def tScT (P : Program) (w : World) (wi : TI) (g : TG) (tt : L2.TT) (te : TE) (vs : List Nat) : TE := fun σ H Q => wi σ H fun J H1 => ∀ D, H1 D = none → ∃ W : Nat → Nat → Hp → Prop, (∃ m, W 0 m (upd H1 D (SetTO P w D []))) ∧ ∀ i m H, W i m H →
  (J.stop i H ∧ Q (.ref D) H) ∨ (J.go i H ∧ ∃ Nx : Hp → Prop, (∀ H', Nx H' → ∃ m', m' < m ∧ W (i + 1) m' H') ∧
    ∀ x H', J.yld i H x H' → g x (wipe σ vs) H' fun σ2 H2 => wipe σ2 vs = wipe σ vs ∧ tt σ2 H2 fun b H3 =>
      if b = true then te σ2 H3 fun y H4 => ∃ (a : Addr) (k : List Int) (rs : List (Addr × List Int)), y = .ref a ∧ H4 a = some (.tup (k.map V.int)) ∧ H4 D = some (SetTO P w D rs) ∧ rs.length + 1 < 64 ∧ (∀ r ∈ rs, H4 r.1 = some (.tup (r.2.map V.int))) ∧
        ∀ rs', (k ∈ rs.map (·.2) → rs' = rs) → (k ∉ rs.map (·.2) → rs'.Perm ((a, k) :: rs)) → Nx (upd H4 D (SetTO P w D rs'))
      else Nx H3)
theorem pe_scT {elt a0 b0 : Expr} {c0 : List Expr} {scope : Scope} {own : List (PySem.Str × Nat)} {pos : Pos} {wi : TI} {g : TG} {tt : L2.TT} {te : TE} (hu : X.A.units + 1 < cLine)
    (hc : X.calm = true) (hN : X.N.Nodup) (hi : PI X a0 b0 wi) (ok : BlkOk X.N X.env.scope scope own)
    (hg : ∀ (s : Shared) (H : Hp) (C : Addr) (cl : List (PySem.Str × Addr)) (fq : List Addr), PG (X.blk s H scope (compEnvC scope cl C X.env) fq) a0 g) (ht : ∀ (s : Shared) (H : Hp) (C : Addr) (cl : List (PySem.Str × Addr)) (fq : List Addr), PTs (X.blk s H scope (compEnvC scope cl C X.env) fq) c0 tt)
    (he : ∀ (s : Shared) (H : Hp) (C : Addr) (cl : List (PySem.Str × Addr)) (fq : List Addr), PE (X.blk s H scope (compEnvC scope cl C X.env) fq) elt te) (f0 : ∀ x, foldedSetIterable b0 X.env x = pure x := by intro _; rfl) :
    PE X (.SetComp elt [⟨a0, b0, c0, 0⟩] scope pos) (tScT X.prog X.w wi g tt te (own.map (·.2))) := by
  refine ⟨fun pins s σ H Q I h => ?_⟩
  rw [PpSet.eval_SetComp]
  have free : ∀ y ∈ scope.names, y.2 = .free → ∃ c, X.env.cells.lookup y.1 = some c := fun y hy e =>
    (ok.free y hy e).elim (fun k => I.ok.has _ (.inl k)) (fun k => I.ok.has _ (.inr k))
  refine wpAny_comprehension_free (use := none) rfl f0 (closure_ok free) ok.kind (fun y hy e => by rw [ok.uniq y hy, e]) ?_
  refine thn (hi.run pins s σ H _ I h) fun xv s1 hx => thn hx fun itv s2 h2 => ?_
  obtain ⟨it, fp, tn, J, H2, rfl, I2, T, st2, fpo, q⟩ := h2
  refine PpSet.newSet_ok (newEnv_comp ?_)
  generalize hD : s2.heap.objs.size = D
  obtain ⟨W, ⟨m0, w0⟩, turn⟩ := q D (I2.hok.fresh (Nat.le_of_eq hD))
  generalize hs3 : ({ s2 with heap := s2.heap.push (Ca.eSet X.w) } : Shared) = s3
  have e3 : s3.heap = s2.heap.push (Ca.eSet X.w) := by rw [← hs3]
  have I3 : Inv X pins σ (upd H2 D (SetTO X.prog X.w D [])) s3 := by
    subst hs3 hD
    exact I2.laid (t' := s2.toks) (fun b o e => Heap.get?_push_of_some _ e) (Nat.le_refl _) (setTO_new (setTR_fresh (P := X.prog) (w := X.w) (Heap.get?_push_size _ rfl)).t0)
  have low : ∀ b ∈ fp, b < s2.heap.objs.size := fun b hb =>
    let ⟨_, e, _⟩ := T.obj _ _ st2 b hb
    Heap.lt_size e
  have fpo3 : ∀ b ∈ fp, FpOk X pins (upd H2 D (SetTO X.prog X.w D [])) b ∧ b < s3.heap.objs.size := fun b hb => by
    have lt := low b hb
    refine ⟨⟨?_, (fpo b hb).2⟩, by rw [e3, Heap.size_push]; exact Nat.lt_succ_of_lt lt⟩
    rw [upd_ne (by subst hD; exact Nat.ne_of_lt lt)]
    exact (fpo b hb).1
  have st3 : tn 0 s3.heap := T.keep _ _ _ st2 fun b _ o e => by rw [e3]; exact Heap.get?_push_of_some _ e
  have I4 := block_start I3 ok hN fpo3
  generalize hcl : cellsFrom (s3.heap.objs.size + 1) scope.names (cloFrom X.env.cells scope.names []) = cl at I4 ⊢
  have qg := hg s3 (upd H2 D (SetTO X.prog X.w D [])) s3.heap.objs.size cl fp
  have qt := ht s3 (upd H2 D (SetTO X.prog X.w D [])) s3.heap.objs.size cl fp
  have qe := he s3 (upd H2 D (SetTO X.prog X.w D [])) s3.heap.objs.size cl fp
  have non3 : ∀ b ∈ fp, (upd H2 D (SetTO X.prog X.w D [])) b = none := fun b hb => (fpo3 b hb).1.1
  show codeAny _ _ (.compStart (.SetComp elt [⟨a0, b0, c0, 0⟩] scope pos) 0 (.ref it) (.ref D) (compEnvC scope cl s3.heap.objs.size X.env)) (compPost (model X.prog X.w) X.A X.xe none _ (.ref D) s3.heap.objs.size)
    { s3 with heap := pushCells (s3.heap.push { cls := .type "dict", data := .dict #[] }) scope.names }
  generalize hce : compEnvC scope cl s3.heap.objs.size X.env = ce at I4 qg qt qe ⊢
  have loc : ce.locals = s3.heap.objs.size := by subst hce; rfl
  generalize hH3 : upd H2 D (SetTO X.prog X.w D []) = H3 at I3 I4 qg qt qe w0 non3 fpo3
  generalize hs4 : ({ s3 with heap := pushCells (s3.heap.push { cls := .type "dict", data := .dict #[] }) scope.names } : Shared) = s4 at I4 ⊢
  have st4 : tn 0 s4.heap := T.keep _ _ _ st3 fun b _ o e => by
    subst hs4
    exact pushCells_keeps _ _ _ _ (Heap.get?_push_of_some _ e)
  let Y : Cx := X.blk s3 H3 scope ce fp
  have okFp : ∀ {σ' : L2.St} {H' : Hp} {s' : Shared}, Inv Y [] σ' H' s' → (∀ b ∈ fp, H' b = none) → ∀ b ∈ fp, FpOk Y [] H' b := fun {σ' H' s'} K hn b hb =>
    ⟨hn b hb, (K.ok.exf b hb).1, K.ok.exfs b hb, .inl hb, fun x c e => (K.ok.exf b hb).2 x c e,
      fun p hp => absurd (show p ∈ ([] : List (Addr × Obj)) ++ [] from hp) (by simp)⟩
  generalize hvs : own.map (·.2) = vs at turn I4
  have loop : codeAny (model X.prog X.w) X.A (.compLoop (.SetComp elt [⟨a0, b0, c0, 0⟩] scope pos) 0 (.ref it) (.ref D) ce)
      (compPost (model X.prog X.w) X.A X.xe none (EP X pins σ Q) (.ref D) s3.heap.objs.size) s4 := by
    refine PpSet.compLoopS_any (fun n s' => ∃ i H', Inv Y [] (wipe σ vs) H' s' ∧ tn i s'.heap ∧ (∀ b ∈ fp, H' b = none) ∧ W i n H') ?_ m0 ⟨0, H3, I4, st4, non3, w0⟩
    rintro n s5 ⟨i, H5, I5, st5, n5, w5⟩
    rcases turn i n H5 w5 with ⟨stop, fin⟩ | ⟨go, Nx, hNx, step⟩
    · refine thnF (T.done Y rfl rfl rfl hc i [] s5 _ H5 (fun _ _ => False) I5 (okFp I5 n5) st5 stop) fun r s6 ⟨hr, I6⟩ => ?_
      subst hr
      have I7 : Inv X pins σ H5 s6 := I3.call' (ch := fp) I6.os I6.base I6.hok I6.bare fun b hb =>
        ⟨(fpo3 b hb).1.2.2.2.1, (fpo3 b hb).1.2.1, (fpo3 b hb).1.2.2.2.2.1, (fpo3 b hb).1.2.2.2.2.2⟩
      have nC : H5 s3.heap.objs.size = none := by
        have z : H5 ce.locals = none := I6.free
        rwa [loc] at z
      obtain ⟨m, hm, _⟩ := I6.loc
      have hm : s6.heap.Ns ce.locals m := hm
      rw [loc] at hm
      obtain ⟨z0, z1, z2, z3, z4, z5⟩ := I3.fpOk (Nat.le_refl _) nC
      refine ⟨m, hm, fun h'' sb => ⟨.ref D, H5, I7.turned (t' := s6.toks) (fun b o hb e => ?_) z0 z1 z3 z4 z5, rfl, fin⟩⟩
      exact (sb.2 b hb).trans e
    · refine thnF (T.item Y rfl rfl rfl hc i [] s5 _ H5 (fun _ _ => False) I5 (okFp I5 n5) st5 go) fun r s6 ⟨u, hr, h6⟩ => ?_
      subst hr
      refine thnF h6 fun _ s7 ⟨x, H7, I7, r7, y7, st7, n7⟩ => ?_
      refine thnF (qg.run _ s7 _ H7 x u _ (I7.pinned (okFp I7 n7) (T.obj _ _ st7)) r7 (step x H7 y7)) fun _ s8 ⟨σ8, H8, I8, w8, q8⟩ => ?_
      refine thnF (qt.run _ s8 σ8 H8 _ I8 q8) fun b s9 ⟨H9, I9, q9⟩ => ?_
      have close : ∀ {s' : Shared} {H' : Hp}, Inv Y ([] ++ pinsAt fp s7.heap) σ8 H' s' → Nx H' →
          ∃ m, m < n ∧ ∃ i H', Inv Y [] (wipe σ vs) H' s' ∧ tn i s'.heap ∧ (∀ b ∈ fp, H' b = none) ∧ W i m H' := fun {s' H'} K nx => by
        obtain ⟨m', hm, w'⟩ := hNx H' nx
        have held : ∀ b ∈ fp, ∀ o, s7.heap.get? b = some o → s'.heap.get? b = some o ∧ H' b = none := fun b hb o e =>
          let z := K.pin (b, o) (List.mem_append_right _ (List.mem_append_right _ (mem_pinsAt hb e)))
          ⟨z.1, z.2.1⟩
        refine ⟨m', hm, i + 1, H', (K.unpinned (pins := [])).weak (by rw [← w8, wipe_length]) (fun j v e => ?_), T.keep _ _ _ st7 fun b hb o e => (held b hb o e).1, fun b hb => ?_, w'⟩
        · rw [← w8] at e
          exact (wipe_some e).1
        · obtain ⟨o, e, _⟩ := T.obj _ _ st7 b hb
          exact (held b hb o e).2
      cases b with
      | false =>
        simp only [Bool.false_eq_true, if_false] at q9 ⊢
        exact close I9 q9
      | true =>
        simp only [if_true] at q9 ⊢
        refine thnF (qe.run _ s9 σ8 H9 _ I9 q9) fun z s10 ⟨yv, H10, I10, r10, a, k, rs, ey, ha, d10, few, hrs, nx⟩ => ?_
        subst ey
        exact add_tup (X := Y) I10 hu d10 few ha hrs r10 fun rs' s11 c1 c2 I11 => close I11 (nx rs' c1 c2)
  exact PpSet.codeAny_compStart_set loop (T.self X.A 0 _ _ _ st4 loop)
end
end TQ

set_option maxHeartbeats 1000000
namespace Q
open PySem PySem.Spec PyProof.Rows L2 Ca
theorem val_put (ns : List (Int × Int)) (k v n : Int) : valI (putI ns k v) n = if n = k then some v else valI ns n := by
  unfold putI
  split
  · rename_i h
    induction ns with
    | nil => simp at h
    | cons p ns ih =>
      rw [List.map_cons]
      by_cases e : p.1 = k
      · rw [if_pos e]
        by_cases e2 : n = k
        · unfold valI
          rw [List.find?_cons_of_pos (by simp [e, e2]), if_pos e2]
          rfl
        · rw [if_neg e2]
          have e3 : p.1 ≠ n := fun z => e2 (z.symm.trans e)
          have keep : ∀ ms : List (Int × Int), valI (ms.map fun p => if p.1 = k then (p.1, v) else p) n = valI ms n := fun ms => by
            induction ms with
            | nil => rfl
            | cons q ms ih2 =>
              rw [List.map_cons]
              unfold valI at ih2 ⊢
              by_cases e4 : q.1 = n
              · have e5 : q.1 ≠ k := fun z => e2 (e4.symm.trans z)
                rw [if_neg e5, List.find?_cons_of_pos (by simp [e4]), List.find?_cons_of_pos (by simp [e4])]
              · by_cases e5 : q.1 = k
                · rw [if_pos e5, List.find?_cons_of_neg (by simp [e4]), List.find?_cons_of_neg (by simp [e4])]
                  exact ih2
                · rw [if_neg e5, List.find?_cons_of_neg (by simp [e4]), List.find?_cons_of_neg (by simp [e4])]
                  exact ih2
          have := keep ns
          unfold valI at this ⊢
          rw [List.find?_cons_of_neg (by simp [e3]), List.find?_cons_of_neg (by simp [e3])]
          exact this
      · rw [if_neg e]
        have h2 : (ns.any fun p => decide (p.1 = k)) = true := by simpa [e] using h
        have := ih h2
        unfold valI at this ⊢
        by_cases e3 : p.1 = n
        · have e4 : n ≠ k := fun z => e (e3.trans z)
          rw [List.find?_cons_of_pos (by simp [e3]), List.find?_cons_of_pos (by simp [e3]), if_neg e4]
        · rw [List.find?_cons_of_neg (by simp [e3]), List.find?_cons_of_neg (by simp [e3])]
          exact this
  · rename_i h
    have h2 : ∀ p ∈ ns, p.1 ≠ k := fun p hp z => h (List.any_eq_true.mpr ⟨p, hp, by simp [z]⟩)
    unfold valI
    rw [List.find?_append]
    by_cases e : n = k
    · rw [if_pos e]
      have : (ns.find? fun p => decide (p.1 = n)) = none := List.find?_eq_none.mpr fun p hp => by simpa using fun z => h2 p hp (z.trans e)
      rw [this, List.find?_cons_of_pos (by simp [e])]
      rfl
    · rw [if_neg e, List.find?_cons_of_neg (by simpa using fun z => e z.symm)]
      simp
theorem val_two (ns : List (Int × Int)) (l x r y n : Int) : valI (mergeI ns (mergeI [] [(l, x), (r, y)])) n = if n = r then some y else if n = l then some x else valI ns n := by
  by_cases e : l = r
  · have e1 : mergeI [] [(l, x), (r, y)] = [(l, y)] := by
      show putI (putI [] l x) r y = _
      subst e
      simp [putI]
    rw [e1]
    show valI (putI ns l y) n = _
    rw [val_put, e]
    by_cases e2 : n = r
    · rw [if_pos e2, if_pos e2]
    · rw [if_neg e2, if_neg e2, if_neg e2]
  · have e1 : mergeI [] [(l, x), (r, y)] = [(l, x), (r, y)] := by
      show putI (putI [] l x) r y = _
      simp [putI, e]
    rw [e1]
    show valI (putI (putI ns l x) r y) n = _
    rw [val_put, val_put]

instance decAt : DecidableEq At := fun a b => decidable_of_iff (a.k = b.k ∧ a.l = b.l ∧ a.r = b.r) ⟨fun ⟨h1, h2, h3⟩ => by cases a; cases b; simp_all, fun h => by rw [h]; exact ⟨rfl, rfl, rfl⟩⟩
/-! ### atoms sent to atoms -/
abbrev Snd : Type := List (Int × Int) × List At
def img (d : List (Int × Int)) (a : At) : At := ⟨a.k, (valI d a.l).getD 0, (valI d a.r).getD 0⟩
def nxS (a : At) (c : Snd) (b : At) (i : Nat) : Snd := (mergeI c.1 (mergeI [] [(a.l, b.l), (a.r, b.r)]), c.2.take i ++ c.2.drop (i + 1))
def agA (d : List (Int × Int)) (a b : At) : Bool := agB d a.k a.l a.r b.k b.l b.r
def stepS (a : At) (f : List Snd) : List Snd := f.flatMap fun c => (c.2.zipIdx.filter fun p => agA c.1 a p.1).map fun p => nxS a c p.1 p.2
def snds (as bs : List At) : List Snd := as.foldl (fun f a => stepS a f) [([], bs)]
theorem snds_snoc (as : List At) (a : At) (bs : List At) : snds (as ++ [a]) bs = stepS a (snds as bs) := by
  unfold snds
  rw [List.foldl_append]
  rfl
theorem mem_step {a : At} {f : List Snd} {d : Snd} : d ∈ stepS a f ↔ ∃ c ∈ f, ∃ i b, c.2[i]? = some b ∧ agA c.1 a b = true ∧ d = nxS a c b i := by
  unfold stepS
  rw [List.mem_flatMap]
  constructor
  · rintro ⟨c, hc, h⟩
    obtain ⟨p, hp, rfl⟩ := (List.mem_map).mp h
    obtain ⟨h1, h2⟩ := List.mem_filter.mp hp
    obtain ⟨b, i⟩ := p
    exact ⟨c, hc, i, b, List.mem_zipIdx_iff_getElem?.mp h1, h2, rfl⟩
  · rintro ⟨c, hc, i, b, h1, h2, rfl⟩
    exact ⟨c, hc, List.mem_map.mpr ⟨(b, i), List.mem_filter.mpr ⟨List.mem_zipIdx_iff_getElem?.mpr h1, h2⟩, rfl⟩⟩
theorem ag_iff {d : List (Int × Int)} {a b : At} : agA d a b = true ↔ b.k = a.k ∧ (a.l = a.r → b.l = b.r) ∧ (∀ v, valI d a.l = some v → v = b.l) ∧ (∀ v, valI d a.r = some v → v = b.r) := by
  have g : ∀ (o : Option Int) (x : Int), o.getD x = x ↔ ∀ v, o = some v → v = x := fun o x => by
    cases o <;> simp
  unfold agA agB
  simp only [Bool.and_eq_true, Bool.not_eq_true', Bool.or_eq_false_iff, Bool.and_eq_false_iff, Bool.not_eq_false', decide_eq_true_eq, decide_eq_false_iff_not]
  rw [g, g]
  constructor
  · rintro ⟨⟨h1, h2⟩, h3, h4⟩
    exact ⟨h1, fun e => h2.elim (fun n => absurd e n) id, h3, h4⟩
  · rintro ⟨h1, h2, h3, h4⟩
    refine ⟨⟨h1, ?_⟩, h3, h4⟩
    by_cases e : a.l = a.r
    · exact .inr (h2 e)
    · exact .inl e
theorem vars_snoc (as : List At) (a : At) (x : Int) : x ∈ vars (as ++ [a]) ↔ x ∈ vars as ∨ x = a.l ∨ x = a.r := by
  rw [mem_vars, mem_vars]
  constructor
  · rintro ⟨b, hb, h⟩
    rcases (List.mem_append).mp hb with hb | hb
    · exact .inl ⟨b, hb, h⟩
    · rw [List.mem_singleton.mp hb] at h
      exact .inr h
  · rintro (⟨b, hb, h⟩ | h)
    · exact ⟨b, List.mem_append.mpr (.inl hb), h⟩
    · exact ⟨a, List.mem_append.mpr (.inr (.head _)), h⟩
theorem vl_in {as : List At} {a : At} (h : a ∈ as) : a.l ∈ vars as := mem_vars.mpr ⟨a, h, .inl rfl⟩
theorem vr_in {as : List At} {a : At} (h : a ∈ as) : a.r ∈ vars as := mem_vars.mpr ⟨a, h, .inr rfl⟩
theorem take_drop_perm {l : List At} {i : Nat} {b : At} (h : l[i]? = some b) : (b :: (l.take i ++ l.drop (i + 1))).Perm l := by
  have e : l = l.take i ++ b :: l.drop (i + 1) := by
    have := List.take_append_drop i l
    have hi : i < l.length := (List.getElem?_eq_some_iff.mp h).1
    have d : l.drop i = b :: l.drop (i + 1) := by
      rw [List.drop_eq_getElem_cons hi]
      rw [List.getElem?_eq_getElem hi] at h
      rw [Option.some.inj h]
    rw [d] at this
    exact this.symm
  exact List.perm_middle.symm.trans (by rw [← e])
/-- what a sending is -/
structure SndOk (as bs : List At) (c : Snd) : Prop where
  dom : ∀ x, (∃ v, valI c.1 x = some v) ↔ x ∈ vars as
  pm : (as.map (img c.1) ++ c.2).Perm bs
theorem snd_ok : ∀ (n : Nat) (as bs : List At), as.length = n → ∀ c ∈ snds as bs, SndOk as bs c
  | 0, as, bs, hn, c, hc => by
    have e : as = [] := List.eq_nil_of_length_eq_zero hn
    subst e
    have e : c = ([], bs) := by simpa [snds] using hc
    subst e
    exact ⟨fun x => by simp [valI, vars], List.Perm.refl _⟩
  | n + 1, as, bs, hn, d, hd => by
    have ne : as ≠ [] := fun z => by rw [z] at hn; cases hn
    obtain ⟨ts, a, rfl⟩ : ∃ ts a, as = ts ++ [a] := ⟨as.dropLast, as.getLast ne, (List.dropLast_concat_getLast ne).symm⟩
    rw [List.length_append] at hn
    have hl : ts.length = n := by simpa using hn
    rw [snds_snoc] at hd
    obtain ⟨c, hc, i, b, hi, ag, rfl⟩ := mem_step.mp hd
    have ih := snd_ok n ts bs hl c hc
    obtain ⟨ek, eq, gl, gr⟩ := ag_iff.mp ag
    have old : ∀ x v, valI c.1 x = some v → valI (nxS a c b i).1 x = some v := fun x v h => by
      show valI (mergeI c.1 _) x = _
      rw [val_two]
      split
      · rename_i e
        rw [e] at h
        rw [gr v h]
      · split
        · rename_i e
          rw [e] at h
          rw [gl v h]
        · exact h
    refine ⟨fun x => ?_, ?_⟩
    · rw [vars_snoc, ← ih.dom x]
      constructor
      · rintro ⟨v, h⟩
        have h : valI (mergeI c.1 (mergeI [] [(a.l, b.l), (a.r, b.r)])) x = some v := h
        rw [val_two] at h
        split at h
        · rename_i e
          exact .inr (.inr e)
        · split at h
          · rename_i e
            exact .inr (.inl e)
          · exact .inl ⟨v, h⟩
      · rintro (⟨v, h⟩ | h | h)
        · exact ⟨v, old x v h⟩
        · by_cases z : x = a.r
          · exact ⟨b.r, by show valI (mergeI c.1 _) x = _; rw [val_two, if_pos z]⟩
          · exact ⟨b.l, by show valI (mergeI c.1 _) x = _; rw [val_two, if_neg z, if_pos h]⟩
        · exact ⟨b.r, by show valI (mergeI c.1 _) x = _; rw [val_two, if_pos h]⟩
    · have e1 : ts.map (img (nxS a c b i).1) = ts.map (img c.1) := List.map_congr_left fun t ht => by
        obtain ⟨v1, h1⟩ := (ih.dom t.l).mpr (vl_in ht)
        obtain ⟨v2, h2⟩ := (ih.dom t.r).mpr (vr_in ht)
        unfold img
        rw [old _ _ h1, old _ _ h2, h1, h2]
      have e2 : img (nxS a c b i).1 a = b := by
        have hr : valI (nxS a c b i).1 a.r = some b.r := by
          show valI (mergeI c.1 _) _ = _
          rw [val_two, if_pos rfl]
        have hl : valI (nxS a c b i).1 a.l = some b.l := by
          show valI (mergeI c.1 _) _ = _
          rw [val_two]
          by_cases z : a.l = a.r
          · rw [if_pos z, eq z]
          · rw [if_neg z, if_pos rfl]
        unfold img
        rw [hl, hr, ← ek]
        rfl
      rw [List.map_append, List.map_cons, List.map_nil, e1, e2, List.append_assoc]
      exact ((take_drop_perm hi).append_left _).trans ih.pm
theorem snd_all (g : Int → Int) : ∀ (n : Nat) (as bs rest : List At), as.length = n → (as.map (rnm g) ++ rest).Perm bs → ∃ c ∈ snds as bs, (∀ x ∈ vars as, valI c.1 x = some (g x)) ∧ c.2.Perm rest
  | 0, as, bs, rest, hn, p => by
    have e : as = [] := List.eq_nil_of_length_eq_zero hn
    subst e
    exact ⟨([], bs), by simp [snds], (fun x hx => by cases hx), p.symm⟩
  | n + 1, as, bs, rest, hn, p => by
    have ne : as ≠ [] := fun z => by rw [z] at hn; cases hn
    obtain ⟨ts, a, rfl⟩ : ∃ ts a, as = ts ++ [a] := ⟨as.dropLast, as.getLast ne, (List.dropLast_concat_getLast ne).symm⟩
    rw [List.length_append] at hn
    have hl : ts.length = n := by simpa using hn
    rw [List.map_append, List.map_cons, List.map_nil, List.append_assoc] at p
    obtain ⟨c, hc, hv, hp⟩ := snd_all g n ts bs (rnm g a :: rest) hl p
    have hm : rnm g a ∈ c.2 := hp.mem_iff.mpr (.head _)
    obtain ⟨i, hi⟩ := List.getElem?_of_mem hm
    have ok := snd_ok n ts bs hl c hc
    have known : ∀ x v, valI c.1 x = some v → v = g x := fun x v h => by
      have := hv x ((ok.dom x).mp ⟨v, h⟩)
      rw [h] at this
      exact Option.some.inj this
    have ag : agA c.1 a (rnm g a) = true := ag_iff.mpr ⟨rfl, fun e => by show g a.l = g a.r; rw [e], fun v h => known _ v h, fun v h => known _ v h⟩
    refine ⟨nxS a c (rnm g a) i, by rw [snds_snoc]; exact mem_step.mpr ⟨c, hc, i, _, hi, ag, rfl⟩, fun x hx => ?_, ?_⟩
    · show valI (mergeI c.1 (mergeI [] [(a.l, g a.l), (a.r, g a.r)])) x = _
      rw [val_two]
      split
      · rename_i e
        rw [e]
      · rename_i n1
        split
        · rename_i e
          rw [e]
        · rename_i n2
          rcases (vars_snoc ts a x).mp hx with h | h | h
          · exact hv x h
          · exact absurd h n2
          · exact absurd h n1
    · have q := (take_drop_perm hi).trans hp
      exact (List.perm_cons _).mp q
/-! ### coverings -/
abbrev nms (as : List At) : List Int := sd (vars as)
def apl (ns σ : List Int) (x : Int) : Int := σ.getD (ns.idxOf x) 0
def isCov (as bs : List At) (σ : List Int) : Prop := σ.length = (nms as).length ∧ (as.map (rnm (apl (nms as) σ))).Perm bs
theorem nms_nd (as : List At) : (nms as).Nodup := (sd_up (vars as)).imp fun h => Int.ne_of_lt h
def wayI (d : List (Int × Int)) (vs : List Int) : List Int := vs.map fun x => (valI d x).getD 0
theorem apl_map {ns : List Int} {f : Int → Int} {x : Int} (h : x ∈ ns) : apl ns (ns.map f) x = f x := by
  unfold apl
  have lt := List.idxOf_lt_length_of_mem h
  rw [List.getD_eq_getElem?_getD, List.getElem?_map, List.getElem?_eq_getElem lt, List.getElem_idxOf]
  rfl
theorem map_apl {ns σ : List Int} (nd : ns.Nodup) (hl : σ.length = ns.length) : ns.map (apl ns σ) = σ := by
  refine List.ext_getElem (by rw [List.length_map, hl]) fun i h1 h2 => ?_
  rw [List.getElem_map]
  unfold apl
  rw [List.length_map] at h1
  have e : ns.idxOf ns[i] = i := nd.idxOf_getElem i h1
  rw [e, List.getD_eq_getElem?_getD, List.getElem?_eq_getElem h2]
  rfl
theorem way_cov {as bs : List At} {c : Snd} (hc : c ∈ snds as bs) (h0 : c.2 = []) : isCov as bs (wayI c.1 (nms as)) := by
  have ok := snd_ok as.length as bs rfl c hc
  refine ⟨by unfold wayI; rw [List.length_map], ?_⟩
  have e : as.map (rnm (apl (nms as) (wayI c.1 (nms as)))) = as.map (img c.1) := List.map_congr_left fun a ha => by
    unfold rnm img wayI
    rw [apl_map (sd_mem.mpr (vl_in ha)), apl_map (sd_mem.mpr (vr_in ha))]
  rw [e]
  have p := ok.pm
  rw [h0, List.append_nil] at p
  exact p
theorem cov_way {as bs : List At} {σ : List Int} (h : isCov as bs σ) : ∃ c ∈ snds as bs, c.2 = [] ∧ wayI c.1 (nms as) = σ := by
  obtain ⟨c, hc, hv, hp⟩ := snd_all (apl (nms as) σ) as.length as bs [] rfl (by rw [List.append_nil]; exact h.2)
  refine ⟨c, hc, hp.eq_nil, ?_⟩
  unfold wayI
  refine (List.map_congr_left fun x hx => ?_).trans (map_apl (nms_nd as) h.1)
  rw [hv x (sd_mem.mp hx)]
  rfl
/-! ### the list of them -/
def allT : Nat → List (List Int)
  | 0 => [[]]
  | n + 1 => (allT n).flatMap fun l => (List.range 10).map fun d : Nat => l ++ [(d : Int)]
theorem mem_allT : ∀ {n : Nat} {l : List Int}, l ∈ allT n ↔ l.length = n ∧ TS.Bd 10 l
  | 0, l => by
    constructor
    · intro h
      have e : l = [] := by simpa [allT] using h
      rw [e]
      exact ⟨rfl, fun m hm => by cases hm⟩
    · rintro ⟨h, _⟩
      rw [List.eq_nil_of_length_eq_zero h]
      exact .head _
  | n + 1, l => by
    constructor
    · intro h
      obtain ⟨t, ht, h⟩ := List.mem_flatMap.mp h
      obtain ⟨d, hd, rfl⟩ := List.mem_map.mp h
      obtain ⟨h1, h2⟩ := mem_allT.mp ht
      refine ⟨by rw [List.length_append, h1]; rfl, fun m hm => ?_⟩
      rcases (List.mem_append).mp hm with hm | hm
      · exact h2 m hm
      · rw [(List.mem_singleton).mp hm]
        have := List.mem_range.mp hd
        omega
    · rintro ⟨h1, h2⟩
      have ne : l ≠ [] := fun z => by rw [z] at h1; cases h1
      obtain ⟨t, x, rfl⟩ : ∃ t x, l = t ++ [x] := ⟨l.dropLast, l.getLast ne, (List.dropLast_concat_getLast ne).symm⟩
      rw [List.length_append] at h1
      have lt : t.length = n := by simpa using h1
      have hx := h2 x (List.mem_append.mpr (.inr (.head _)))
      refine List.mem_flatMap.mpr ⟨t, mem_allT.mpr ⟨lt, fun m hm => h2 m (List.mem_append.mpr (.inl hm))⟩, List.mem_map.mpr ⟨x.toNat, List.mem_range.mpr (by omega), ?_⟩⟩
      rw [show ((x.toNat : Nat) : Int) = x by omega]
theorem code_snoc (B : Int) (x : Int) : ∀ l : List Int, TS.code B (l ++ [x]) = TS.code B l * B + x
  | [] => by
    show x * B ^ 0 + 0 = 0 * B + x
    rw [Int.pow_zero]
    omega
  | d :: l => by
    show d * B ^ (l ++ [x]).length + TS.code B (l ++ [x]) = (d * B ^ l.length + TS.code B l) * B + x
    rw [code_snoc B x l, List.length_append, List.length_cons, List.length_nil, Int.pow_succ, Int.add_mul, Int.mul_assoc]
    omega
theorem code_inj {B : Int} : ∀ {l m : List Int}, l.length = m.length → TS.Bd B l → TS.Bd B m → TS.code B l = TS.code B m → l = m
  | [], [], _, _, _, _ => rfl
  | [], _ :: _, h, _, _, _ => by cases h
  | _ :: _, [], h, _, _, _ => by cases h
  | d :: l, e :: m, h, h1, h2, hc => by
    have hl : l.length = m.length := by simpa using h
    rcases Int.lt_trichotomy d e with z | z | z
    · have := TS.code_lt (B := B) hl h1.tail h2.tail z
      omega
    · subst z
      have q : d * B ^ l.length + TS.code B l = d * B ^ m.length + TS.code B m := hc
      rw [hl] at q
      rw [code_inj hl h1.tail h2.tail (by omega)]
    · have := TS.code_lt (B := B) hl.symm h2.tail h1.tail z
      omega
theorem allT_up : ∀ n, (allT n).Pairwise fun a b => TS.code 10 a < TS.code 10 b
  | 0 => List.pairwise_singleton _ _
  | n + 1 => by
    have ih := allT_up n
    unfold allT
    rw [List.pairwise_flatMap]
    refine ⟨fun l hl => ?_, ih.imp_of_mem fun {a b} ha hb h => ?_⟩
    · rw [List.pairwise_map]
      refine (List.pairwise_lt_range (n := 10)).imp fun {x y} h => ?_
      rw [code_snoc, code_snoc]
      omega
    · intro x hx y hy
      obtain ⟨i, hi, rfl⟩ := List.mem_map.mp hx
      obtain ⟨j, hj, rfl⟩ := List.mem_map.mp hy
      have := List.mem_range.mp hi
      have := List.mem_range.mp hj
      rw [code_snoc, code_snoc]
      omega
open Classical in
noncomputable def covs (as bs : List At) : List (List Int) := (allT (nms as).length).filter fun σ => decide (isCov as bs σ)
theorem cov_bd {as bs : List At} {σ : List Int} (g : ∀ b ∈ bs, Good b) (h : isCov as bs σ) : TS.Bd 10 σ := fun m hm => by
  rw [← map_apl (nms_nd as) h.1] at hm
  obtain ⟨x, hx, rfl⟩ := (List.mem_map).mp hm
  obtain ⟨a, ha, e⟩ := mem_vars.mp (sd_mem.mp hx)
  have gb := g _ (h.2.mem_iff.mp (List.mem_map.mpr ⟨a, ha, rfl⟩))
  rcases e with e | e
  · have h1 : 0 ≤ apl (nms as) σ a.l := gb.l0
    have h2 : apl (nms as) σ a.l ≤ 9 := gb.l9
    rw [e]
    omega
  · have h1 : 0 ≤ apl (nms as) σ a.r := gb.r0
    have h2 : apl (nms as) σ a.r ≤ 9 := gb.r9
    rw [e]
    omega
open Classical in
theorem mem_covs {as bs : List At} {σ : List Int} (g : ∀ b ∈ bs, Good b) : σ ∈ covs as bs ↔ isCov as bs σ := by
  unfold covs
  rw [List.mem_filter, decide_eq_true_eq, mem_allT]
  exact ⟨fun h => h.2, fun h => ⟨⟨h.1, cov_bd g h⟩, h⟩⟩
theorem covs_up (as bs : List At) : (covs as bs).Pairwise fun a b => TS.code 10 a < TS.code 10 b := (allT_up _).filter _
/-- a list in the tuples' order is told by what is in it -/
theorem up_one {l m : List (List Int)} {n : Nat} (hl : l.Pairwise fun a b => TS.code 10 a < TS.code 10 b) (hm : m.Pairwise fun a b => TS.code 10 a < TS.code 10 b) (h : ∀ k, k ∈ l ↔ k ∈ m) : l = m := by
  have nd : ∀ {l : List (List Int)}, (l.Pairwise fun a b => TS.code 10 a < TS.code 10 b) → l.Nodup := fun h => h.imp fun {a b} z e => by rw [e] at z; omega
  exact List.Perm.eq_of_pairwise (le := fun a b => TS.code 10 a < TS.code 10 b) (fun a b _ _ h1 h2 => by omega) hl hm ((List.perm_ext_iff_of_nodup (nd hl) (nd hm)).mpr h)
/-- what sorted gives -/
theorem srt_one {l m : List (List Int)} {n : Nat} (hl : l.Pairwise fun a b => TS.code 10 a ≤ TS.code 10 b) (nd : l.Nodup) (hd : ∀ k ∈ l, k.length = n ∧ TS.Bd 10 k) (hm : m.Pairwise fun a b => TS.code 10 a < TS.code 10 b) (h : ∀ k, k ∈ l ↔ k ∈ m) : l = m := by
  refine up_one (n := n) ?_ hm h
  have both := List.Pairwise.and hl nd
  refine both.imp_of_mem fun {a b} ha hb z => ?_
  rcases Int.lt_or_eq_of_le z.1 with y | y
  · exact y
  · exact absurd (code_inj ((hd a ha).1.trans (hd b hb).1.symm) (hd a ha).2 (hd b hb).2 y) z.2
/-- one covering at least for a question and itself -/
theorem cov_self (as : List At) : isCov as as (nms as) := by
  refine ⟨rfl, ?_⟩
  have e : as.map (rnm (apl (nms as) (nms as))) = as := by
    refine (List.map_congr_left fun a ha => ?_).trans (List.map_id as)
    have h1 := apl_map (ns := nms as) (f := id) (sd_mem.mpr (vl_in ha))
    have h2 := apl_map (ns := nms as) (f := id) (sd_mem.mpr (vr_in ha))
    rw [List.map_id] at h1 h2
    show (⟨a.k, apl (nms as) (nms as) a.l, apl (nms as) (nms as) a.r⟩ : At) = a
    rw [h1, h2]
    rfl
  rw [e]
end Q

set_option maxHeartbeats 1000000
namespace Ca
open PySem PySem.Spec PyProof.Rows L2 GenW
/-! ### a for in a generator -/
/-- the frame that waits behind a for -/
abbrev waitF (env : Env) (K : Flow → Sem PySem.Fin) (J : Value → Sem PySem.Fin) (gd : Bool → Bool) (lv : List Value → List Value) (c : Code) (p : PySem.Pos) : Frame :=
  .ret (fun r => ((match r with | .ok f => (.pure f : Sem Flow) | .error e => .raise e).onRaise (cameBack env)).wrap K J gd lv) none (gd false) (lv []) c p []
/-- where a lap of a for goes -/
abbrev lapEnd (target : Expr) (it : Value) (body : List Stmt) (env : Env) : Flow → Sem PySem.Fin := fun f => match f with
  | .next | .cont => .pure (.again (.forLoop target it body [] env))
  | .brk => .pure (.done .next)
  | .ret v => .pure (.done (.ret v))
section
variable {M : Model} {A : Around} {R : GenEnd} {Y : Protocol} {n : Nat} {s₀ : Shared} {c : Code} {fs : List Frame} {s : Shared} {env : Env} {K : Flow → Sem PySem.Fin} {J : Value → Sem PySem.Fin} {gd : Bool → Bool} {lv : List Value → List Value}
theorem seg_for0 {target iter : Expr} {body : List Stmt} {pos : Pos} (hs : ∀ x, foldedSetIterable iter env x = pure x)
    (h : wpAny M (A.over c fs) (eval iter env) (fun x s1 => wpAny M (A.over c fs) (pyIter x) (fun it s2 => ∀ p, Seg M A R Y n s₀ (.forLoop target it body [] env) (M.den (.forLoop target it body [] env))
      (waitF env K J gd lv c p :: fs) s2) (fun x s' => Seg M A R Y n s₀ c (J x) fs s') s1) (fun x s' => Seg M A R Y n s₀ c (J x) fs s') s) :
    Seg M A R Y n s₀ c ((exec (.For target iter body [] pos) env).wrap K J gd lv) fs s := by
  rw [exec_For]
  refine seg_bind_wrap (wpAny_standAt (seg_bind_wrap (wpAny_mono h (fun x s1 h1 => seg_bind_wrap (wpAny_of_eq (hs x) (seg_bind_wrap (wpAny_standAt (seg_bind_wrap (wpAny_holding (wpAny_mono h1 (fun it s2 h2 => ?_) fun _ _ e => e))))))) fun _ _ e => e)))
  exact seg_call h2
end
section
variable {P : Program} {w : World} {A : Around} {R : GenEnd} {Y : Protocol} {n : Nat} {s₀ : Shared} {fs : List Frame} {s : Shared} {env : Env}
abbrev thrown (e : Value) (env : Env) : Sem PySem.Fin := (do noteFrame e env; theTreesLotGoes e : Sem Unit).wrap (fun _ => .raise e) .raise id id
theorem seg_forLoop {target : Expr} {it : Value} {body : List Stmt}
    (h : wpAny (model P w) (A.over (.forLoop target it body [] env) fs) (pyNext it) (fun r s1 => match r with
      | none => ∀ e, e = (.pure (.again (.block [] env)) : Sem PySem.Fin) → Seg (model P w) A R Y n s₀ (.forLoop target it body [] env) e fs s1
      | some v => wpAny (model P w) (A.over (.forLoop target it body [] env) fs) (letOwnedTupleGo target it v) (fun _ s2 => wpAny (model P w) (A.over (.forLoop target it body [] env) fs) (assign target env v) (fun _ s3 =>
          Seg (model P w) A R Y n s₀ (.forLoop target it body [] env) ((execs body env).wrap (lapEnd target it body env) (fun e => thrown e env) id id) fs s3)
        (fun x s' => Seg (model P w) A R Y n s₀ (.forLoop target it body [] env) (thrown x env) fs s') s2) (fun x s' => Seg (model P w) A R Y n s₀ (.forLoop target it body [] env) (thrown x env) fs s') s1)
      (fun x s' => Seg (model P w) A R Y n s₀ (.forLoop target it body [] env) (thrown x env) fs s') s) :
    Seg (model P w) A R Y n s₀ (.forLoop target it body [] env) ((model P w).den (.forLoop target it body [] env)) fs s := by
  have th : ∀ e : Value, ((do noteFrame e env; theTreesLotGoes e : Sem Unit).bind fun _ => (.raise e : Sem PySem.Fin)) = thrown e env := fun e => Sem.bind_eq_wrap _ _
  show Seg _ A R Y n s₀ _ ((forTurn target it body [] env).onRaise (fun x => do noteFrame x env; theTreesLotGoes x)) fs s
  unfold forTurn
  rw [Sem.onRaise_eq_wrap]
  refine seg_bind_wrap (wpAny_standAt (seg_bind_wrap (wpAny_onRaise (wpAny_mono h (fun r s1 h1 => ?_) fun x s' h' => wpAny_standAt ?_))))
  · cases r with
    | none => exact h1 _ rfl
    | some v =>
      refine seg_bind_wrap (wpAny_mono h1 (fun _ s2 h2 => seg_bind_wrap (wpAny_mono h2 (fun _ s3 h3 => ?_) fun x s' h' => ?_)) fun x s' h' => ?_)
      · rw [Sem.bind_eq_wrap', Sem.wrap_wrap]
        rw [Sem.wrap_congr (execs body env) _ _ (K' := lapEnd target it body env) (H' := fun e => thrown e env) (fun f => by cases f <;> rfl) (fun e => by first | exact th e | rfl)]
        exact h3
      · rw [← th x] at h'
        exact h'
      · rw [← th x] at h'
        exact h'
  · rw [← th x] at h'
    exact h'
end
def tGFor (wi : TI) (g : TG) (tb : TGn) : TGn := fun D ys σ H => wi σ H fun J H1 => ∃ W : Nat → Nat → List V → L2.St → Hp → Prop, (∃ m, W 0 m ys σ H1) ∧ ∀ i m ys σ H, W i m ys σ H →
  (J.stop i H ∧ D.nx ys σ H) ∨ (J.go i H ∧ ∃ N : List V → L2.St → Hp → Prop, (∀ ys' σ' H', N ys' σ' H' → ∃ m', m' < m ∧ W (i + 1) m' ys' σ' H') ∧ ∀ x H', J.yld i H x H' → g x σ H' fun σ2 H2 => tb { D with nx := N, ct := N, bk := D.nx } ys σ2 H2)
section
variable {X : Cx}
theorem gs_for {tg iter : Expr} {body : List Stmt} {wi : TI} {g : TG} {tb : TGn} {pos : Pos} (hp : PassesOwn (model X.prog X.w) X.A X.env X.xe) (hc : X.calm = true) (hi : PI X tg iter wi) (hg : PG X tg g) (hb : GSs X body tb)
    (hs : ∀ x, foldedSetIterable iter X.env x = pure x := by intro _; rfl) : GS X (.For tg iter body [] pos) (tGFor wi g tb) := by
  refine ⟨fun A S ip R n ys s₀ c fs K J gd lv s σ H D gc hn k hI ht => ?_⟩
  refine seg_for0 hs ?_
  rw [gc.over]
  obtain ⟨acc, cc, r, I⟩ := hI
  have ex : ∀ x s', X.xe x s' → Seg (model X.prog X.w) A R (GY X S) n s₀ c (J x) fs s' := fun x s' hx => k.exc n s₀ x s' hx
  refine wpAny_mono (hi.run _ s σ H _ I ht) (fun v s1 h1 => wpAny_mono h1 (fun itv s2 h2 p => ?_) ex) ex
  obtain ⟨it, fp, tn, Jt, H2, e, I2, T, st2, f2, W, ⟨m0, w0⟩, turn⟩ := h2
  subst e
  have gl := fun (kk : Result → Sem PySem.Fin) => gc_loop (k := kk) (c' := .forLoop tg (.ref it) body [] X.env) (l := lv []) (kp := []) (p := p) gc rfl rfl
  -- the iterator's objects are none of those that are pinned
  have stat : ∀ {H' : Hp} {acc' : Array Value} {cc' : Nat}, (∀ b ∈ fp, H' b = none) → ∀ b ∈ fp, FpOk X ((S, lstObj acc' cc') :: ip) H' b := fun {H' acc' cc'} hn b hb => by
    obtain ⟨z0, z1, z2, z3, z4, z5⟩ := f2 b hb
    refine ⟨hn b hb, z1, z2, z3, z4, fun q hq => ?_⟩
    refine (List.mem_append.mp hq).elim (fun hq => z5 q (List.mem_append_left _ hq)) fun hq => ?_
    · rcases List.mem_cons.mp hq with hq | hq
      · rw [hq]
        exact z5 (S, lstObj acc cc) (List.mem_append_right _ List.mem_cons_self)
      · exact z5 q (List.mem_append_right _ (List.mem_cons_of_mem _ hq))
  have notS : ∀ b ∈ fp, b ≠ S := fun b hb e => by
    obtain ⟨z0, z1, z2, z3, z4, z5⟩ := f2 b hb
    exact z5 (S, lstObj acc cc) (List.mem_append_right _ List.mem_cons_self) e.symm
  have loop : ∀ (m i n : Nat) (ys : List V) (s₀ s : Shared) (σ : L2.St) (H : Hp), n + ys.length = sizeLine → W i m ys σ H → GI X S ip ys σ H s → tn i s.heap → (∀ b ∈ fp, H b = none) →
      Seg (model X.prog X.w) A R (GY X S) n s₀ (.forLoop tg (.ref it) body [] X.env) ((model X.prog X.w).den (.forLoop tg (.ref it) body [] X.env))
        (waitF X.env K J gd lv c p :: fs) s := by
    refine fun m => Nat.strongRecOn m fun m ih => ?_
    · intro i n ys s₀ s σ H hn w hI st fr
      have ee : ∀ (n : Nat) (s₀ : Shared) (x : Value) (s' : Shared), X.xe x s' → Seg (model X.prog X.w) A R (GY X S) n s₀ (.forLoop tg (.ref it) body [] X.env) (thrown x X.env)
          (waitF X.env K J gd lv c p :: fs) s' := fun n s₀ x s' hx => by
        refine seg_wrap ?_
        rw [(gl _).over]
        exact wpAny_bind (wpAny_mono (hp x s' hx) (fun _ _ cb => wpAny_theTreesLotGoes (seg_leaf (.error x) (seg_cameBack gc k cb))) fun y _ cb => seg_leaf (.error y) (seg_cameBack gc k cb))
      refine seg_forLoop ?_
      rw [(gl _).over]
      obtain ⟨acc, cc, r, I⟩ := hI
      rcases turn i m ys σ H w with ⟨stop, qn⟩ | ⟨go, N, hN, step⟩
      · refine wpAny_mono (T.done X rfl rfl rfl hc i _ s σ H X.xe I (stat fr) st stop) (fun r' s4 ⟨hr, I4⟩ => ?_) fun x s' hx => ee n s₀ x s' hx
        subst hr
        intro e he
        rw [he]
        refine seg_again rfl ?_
        exact seg_leaf (.ok .next) (k.ok n ys s₀ s4 .next hn ⟨σ, H, ⟨acc, cc, r, I4⟩, qn⟩)
      · refine wpAny_mono (T.item X rfl rfl rfl hc i _ s σ H X.xe I (stat fr) st go) (fun r' s4 ⟨u, hr, h4⟩ => ?_) fun x s' hx => ee n s₀ x s' hx
        subst hr
        refine wpAny_mono h4 (fun _ s5 ⟨x, H5, I5, r5, y5, st5, fr5⟩ => ?_) fun x s' hx => ee n s₀ x s' hx
        have J5 := I5.pinned (stat fr5) (T.obj _ _ st5)
        refine wpAny_mono (hg.run _ s5 σ H5 x u _ J5 r5 (step x H5 y5)) (fun _ s6 ⟨σ6, H6, I6, q6⟩ => ?_) fun x s' hx => ee n s₀ x s' hx
        have ipS : ∀ q ∈ ip ++ pinsAt fp s5.heap, q.1 ≠ S := fun q hq => (List.mem_append.mp hq).elim (gc.ip q) fun hq => notS q.1 (L2.of_pinsAt hq).1
        have again : ∀ {ys' : List V} {σ7 : L2.St} {H7 : Hp} {s7 : Shared}, GI X S (ip ++ pinsAt fp s5.heap) ys' σ7 H7 s7 → GI X S ip ys' σ7 H7 s7 ∧ tn (i + 1) s7.heap ∧ ∀ b ∈ fp, H7 b = none := fun {ys' σ7 H7 s7} hI7 => by
          obtain ⟨acc', cc', r', I7⟩ := hI7
          have I7 : Inv X (((S, lstObj acc' cc') :: ip) ++ pinsAt fp s5.heap) σ7 H7 s7 := I7
          refine ⟨⟨acc', cc', r', I7.unpinned⟩, T.keep _ _ _ st5 fun b hb o e => (I7.pin (b, o) (List.mem_append_right _ (List.mem_append_right _ (mem_pinsAt hb e)))).1, fun b hb => ?_⟩
          exact (T.obj _ _ st5 b hb).elim fun o ⟨e, _⟩ => (I7.pin (b, o) (List.mem_append_right _ (List.mem_append_right _ (mem_pinsAt hb e)))).2.1
        refine hb.run A S (ip ++ pinsAt fp s5.heap) R n ys s₀ _ _ _ _ id id s6 σ6 H6 { D with nx := N, ct := N, bk := D.nx } { gl _ with ip := ipS } hn ⟨fun n' ys' s₀' s7 f hn' hs => ?_, fun n' s₀' x s3 hx => ee n' s₀' x s3 hx⟩ ⟨acc, cc, r, I6⟩ q6
        cases f with
        | next =>
          obtain ⟨σ7, H7, I7, n7⟩ := hs
          obtain ⟨m', hm, w7⟩ := hN ys' σ7 H7 n7
          obtain ⟨a1, a2, a3⟩ := again I7
          exact seg_again rfl (ih m' hm (i + 1) n' ys' s₀' s7 σ7 H7 hn' w7 a1 a2 a3)
        | cont =>
          obtain ⟨σ7, H7, I7, n7⟩ := hs
          obtain ⟨m', hm, w7⟩ := hN ys' σ7 H7 n7
          obtain ⟨a1, a2, a3⟩ := again I7
          exact seg_again rfl (ih m' hm (i + 1) n' ys' s₀' s7 σ7 H7 hn' w7 a1 a2 a3)
        | brk =>
          obtain ⟨σ7, H7, I7, q7⟩ := hs
          exact seg_leaf (.ok .next) (k.ok n' ys' s₀' s7 .next hn' ⟨σ7, H7, (again I7).1, q7⟩)
        | ret v =>
          obtain ⟨x7, σ7, H7, I7, r7, q7⟩ := hs
          exact seg_leaf (.ok (.ret v)) (k.ok n' ys' s₀' s7 (.ret v) hn' ⟨x7, σ7, H7, (again I7).1, r7, q7⟩)
  exact loop m0 0 n ys s₀ s2 σ H2 hn w0 ⟨acc, cc, r, I2⟩ st2 fun b hb => (f2 b hb).1
end
end Ca

set_option maxHeartbeats 1000000
namespace Ca
open PySem PySem.Spec PyProof.Rows L2 GenW
/-! ### for x in ..: yield x -/
def spG (I : Hp → List V → List PyData → Prop) : SpG := fun vs H Q _ => ∃ (S : Addr → Bool) (es : List PyData), Fr S H ∧ I (offS S H) vs es ∧ ∀ ys H', Same H H' → RpA (offS S H') ys es → Q ys H'
section
variable {σ : L2.St} {S : Addr → Bool} {H : Hp} {wi : TI} {es : List PyData} {k : Nat} {Q : List V → Hp → Prop} {rt : List V → VK}
theorem go_gen (f : Fr S H) (h : ItP wi σ (offS S H) es) (hk : k < σ.length) (hz : es.length < sizeLine) (q : ∀ ys H', Same H H' → RpA (offS S H') ys es → Q ys H') :
    tGThen (tGFor wi (gName k) (tGThen (tGYield (tVar k)) tG0)) tG0 { nx := fun ys _ H' => Q ys H', rt := rt } [] σ H := by
  refine h S H f (Same.refl _) _ fun J H2 s2 it => ?_
  refine ⟨fun i m ys σ' H' => m = es.length - i ∧ i ≤ es.length ∧ σ'.length = σ.length ∧ Fr S H' ∧ Same H2 H' ∧ RpA (offS S H') ys (es.take i), ⟨es.length, by simp, Nat.zero_le _, rfl, f.mono s2, Same.refl _, .nil⟩, ?_⟩
  rintro i m ys σ' H' ⟨rfl, hi, hl, f', s', r⟩
  have jt := it S H' i f' (offS_mono s')
  by_cases lt : i < es.length
  · obtain ⟨go, yl⟩ := jt.1 lt
    refine .inr ⟨go, fun ys' σ'' H'' => i + 1 ≤ es.length ∧ σ''.length = σ.length ∧ Fr S H'' ∧ Same H2 H'' ∧ RpA (offS S H'') ys' (es.take (i + 1)), fun ys' σ'' H'' ⟨a1, a2, a3, a4, a5⟩ => ⟨es.length - (i + 1), by omega, rfl, a1, a2, a3, a4, a5⟩, fun x H'' y => ?_⟩
    obtain ⟨s5, d, hd, rx⟩ := yl x H'' y
    have ly : ys.length = i := by
      rw [r.length, List.length_take]
      omega
    refine ⟨by omega, x, by rw [List.getElem?_set_self (by omega)], ?_⟩
    have e1 : es.take (i + 1) = es.take i ++ [d] := by
      rw [List.take_add_one, hd]
      rfl
    refine ⟨lt, by rw [List.length_set]; exact hl, f'.mono s5, s'.trans s5, ?_⟩
    rw [e1]
    exact (r.mono (offS_mono s5)).append (.cons rx .nil)
  · have e : i = es.length := by omega
    subst e
    rw [List.take_length] at r
    exact .inl ⟨jt.2 (Nat.le_refl _), q ys H' (s2.trans s') r⟩
end
section
variable {σ : L2.St} {F : Hp} {tas : TA} {Ps : List (Hp → V → Prop)} {I : Hp → List V → List PyData → Prop} {es : List PyData} {E : XK}
/-- list(g(..)) -/
theorem e_listG (h : ∀ (S : Addr → Bool) (H1 : Hp), Fr S H1 → Same F (offS S H1) → ∀ Q : List V → Hp → Prop, (∀ vs H2, Same H1 H2 → I (offS S H2) vs es → Q vs H2) → tas σ H1 Q) : EvD (tListG (tCallG (spG I) [] E tas)) σ F (.list es) := fun S H1 f s Q q =>
  h S H1 f s _ fun vs H2 s2 i => ⟨S, es, f.mono s2, by rw [List.append_nil]; exact i, fun ys H3 s3 r p hp => q _ _ ((s2.trans s3).trans (same_new hp)) (.lst (by rw [offS_at ((f.mono (s2.trans s3)).new hp), upd_same]) (r.mono (offS_mono (same_new hp))))⟩
end
end Ca

set_option maxHeartbeats 4000000
namespace Ca
open PySem PySem.Spec PyProof.Rows L2
/-! ### enumerate of a tuple -/
theorem new_enum {v : Value} {o : Obj} {H : Heap → Prop} (B : Begins v o H) :
    Meets (Builtin.«enumerate.__new__» ⟨[.type "enumerate", v], []⟩) (fun _ R s => H s.heap ∧
      R (.ok (.ret (.ref (s.heap.push o).objs.size))) { s with heap := (s.heap.push o).push { cls := .type "enumerate", data := .fields #[.none, .bool false, .ref s.heap.objs.size, rawInt 0, .none, .none] } }) :=
  .of_wp fun prog w A R s q => by
    rcases s with ⟨hp, g, d, tk, os⟩
    obtain ⟨here, q⟩ := q
    have sub := sub_enumerate
    have begins : ∀ {A' : Around} {E : Value → Shared → Prop} {Q : Value → Shared → Prop}, Q (.ref hp.objs.size) ⟨hp.push o, g, d, tk, os⟩ → wpAny (model prog w) A' (pyIter v) Q E ⟨hp, g, d, tk, os⟩ :=
      fun z => B.iter prog w _ _ ⟨hp, g, d, tk, os⟩ _ here z
    wp_walk using begins
    refine wpAny_stack_any (fun st => wpAny_pure ?_)
    split
    · rename_i c _ _ _ _ _
      cases (c == Value.type "enumerate") <;> (wp_walk using begins; exact ⟨_, rfl, q⟩)
    · wp_walk using begins
      exact ⟨_, rfl, q⟩
section
variable {P : Program} {w : World} {A : Around} {E : Value → Shared → Prop} {s : Shared}
theorem call_enum {v : Value} {o : Obj} {H : Heap → Prop} {Q : Value → Shared → Prop} (B : Begins v o H) (here : H s.heap)
    (q : ∀ h', IsEnum h' (s.heap.objs.size + 1) s.heap.objs.size 0 .none → h'.get? s.heap.objs.size = some o → (∀ b u, s.heap.get? b = some u → h'.get? b = some u) → Q (.ref (s.heap.objs.size + 1)) { s with heap := h' }) :
    wpAny (model P w) A (call (.type "enumerate") [v]) Q E s := by
  refine callType_new F.called_enumerate (by decide) (F.typeCall_enumerate_1 _) (F.newCall_enumerate_1 _) (fun obj => F.args_object_init_2 obj _) F.entry_enumerate_new (new_enum B) ⟨here, ?_⟩
  have sz : (s.heap.push o).objs.size = s.heap.objs.size + 1 := Heap.size_push ..
  show _ ∧ _
  rw [sz]
  have top := Heap.get?_push_size (s.heap.push o) (o := { cls := .type "enumerate", data := .fields #[.none, .bool false, .ref s.heap.objs.size, rawInt 0, .none, .none] }) rfl
  rw [sz] at top
  exact ⟨⟨_, top, rfl⟩, q _ top (Heap.get?_push_of_some _ (Heap.get?_push_size _ B.free)) fun b u z => Heap.get?_push_of_some _ (Heap.get?_push_of_some _ z)⟩
end
def ItE (K : PySem.W.Frag) (a : Addr) (xs : List V) : It where
  go := fun i H => SqT K H a xs ∧ i < xs.length
  yld := fun i H v H' => ∃ T x, v = .ref T ∧ H T = none ∧ H' = upd H T (.tup [.int (i : Nat), x]) ∧ xs[i]? = some x
  stop := fun i H => SqT K H a xs ∧ xs.length ≤ i
/-- how they stand before turn i -/
structure ESt (e it a : Addr) (n i : Nat) (h : Heap) : Prop where
  en : ∃ old, IsEnum h e it ((i : Nat) : Int) old
  ti : h.IsTupleIter it a i
  ne : e ≠ it
  le : i ≤ n
section
variable {e it a : Addr} {n i : Nat} {h : Heap}
theorem ESt.plain (t : ESt e it a n i h) : ∀ x ∈ [e, it], ∃ o, h.get? x = some o ∧ ∀ v, o.data ≠ .cell v := fun x hx => by
  obtain ⟨old, en⟩ := t.en
  obtain ⟨o1, e1, _, d1⟩ := t.ti
  rcases List.mem_cons.mp hx with z | hx
  · subst z
    exact ⟨_, en, fun v q => nomatch q⟩
  · exact ⟨o1, List.mem_singleton.mp hx ▸ e1, fun v z => nomatch d1.symm.trans z⟩
theorem ESt.old (t : ESt e it a n i h) : ∀ x ∈ [e, it], x < h.objs.size := fun x hx => by
  obtain ⟨o, z, _⟩ := t.plain x hx
  exact Heap.lt_size z
theorem ESt.along {h' : Heap} (t : ESt e it a n i h) (k : ∀ x ∈ [e, it], ∀ o, h.get? x = some o → h'.get? x = some o) : ESt e it a n i h' where
  en := t.en.imp fun _ => k _ (by simp) _
  ti := t.ti.at (k _ (by simp))
  ne := t.ne
  le := t.le
end
theorem kind_apart {h : Heap} {x y : Addr} {c d : Value} (e1 : ∃ o, h.get? x = some o ∧ o.cls = c) (e2 : ∃ o, h.get? y = some o ∧ o.cls = d) (ne : c ≠ d) : x ≠ y := by
  rintro rfl
  obtain ⟨_, g1, rfl⟩ := e1
  obtain ⟨_, g2, rfl⟩ := e2
  exact ne (congrArg Obj.cls (Option.some.inj (g1.symm.trans g2)))
section
variable {X : Cx} {pins : List (Addr × Obj)} {s : Shared} {σ : L2.St} {H : Hp} {E : Value → Shared → Prop} {e it a : Addr} {i : Nat} {xs : List V}
theorem eT_apart {ws : List Value} (I : Inv X pins σ H s) (pw : s.heap.IsTuple a ws.toArray) (t : ESt e it a xs.length i s.heap) : a ≠ it ∧ e ∉ [it, a] := by
  obtain ⟨o, g, c, _⟩ := id pw
  obtain ⟨o2, g2, c2, _⟩ := t.ti
  obtain ⟨old, en⟩ := t.en
  refine ⟨kind_apart ⟨_, g, c⟩ ⟨_, g2, c2⟩ (by decide), fun z => ?_⟩
  rcases List.mem_cons.mp z with z | z
  · exact t.ne z
  · exact kind_apart ⟨_, en, rfl⟩ ⟨_, g, c⟩ (show Value.type "enumerate" ≠ Value.type "tuple" by decide) (List.mem_singleton.mp z)
theorem eT_item {elts : List Expr} {kk : Nat} {tpos : Pos} (hc : X.calm = true) (I : Inv X pins σ H s) (own : ∀ x ∈ [e, it], FpOk X pins H x) (t : ESt e it a xs.length i s.heap) (ha : SqT X.K H a xs) (lx : i < xs.length) :
    wpAny (model X.prog X.w) X.A (pyNext (.ref e)) (fun r s1 => ∃ u, r = some u ∧ wpAny (model X.prog X.w) X.A (letOwnedTupleGo (.Tuple elts kk tpos) (.ref e) u) (fun _ s2 => ∃ x H', Inv X pins σ H' s2 ∧ RelV x u ∧ (ItE X.K a xs).yld i H x H' ∧ ESt e it a xs.length (i + 1) s2.heap ∧ ∀ x ∈ [e, it], H' x = none) E s1) E s := by
  obtain ⟨ws, rw', pw, _⟩ := I.tuple ha
  obtain ⟨na, ne⟩ := eT_apart I pw t
  obtain ⟨old, en⟩ := t.en
  have calm : X.A.in1.handled = none := I.ok.hd hc
  have sw : ws.toArray.size = xs.length := (List.size_toArray).trans rw'.length.symm
  refine wpAny_pyNext_enum_itemD (Draws.tuple calm it a na ws.toArray) en ⟨t.ti, pw⟩ (sw ▸ lx) t.ne ne fun w h1 tk gw out st1 nw sz far => ?_
  refine ⟨_, rfl, wpAny_letOwnedTupleGo_enum (s := { s with heap := h1, toks := tk + 1 }) out fun h2 en2 g2 => ?_⟩
  have fresh := t.old
  have el := fresh e (by simp)
  obtain ⟨w', ew, rx⟩ := rw'.get (List.getElem?_eq_getElem lx)
  obtain rfl : w' = w := Option.some.inj (ew.symm.trans (by simpa using gw))
  have pair : h2.get? s.heap.objs.size = some { cls := .type "tuple", data := .seq #[.int i tk, w'] } := by
    rw [g2.2 _ (Nat.ne_of_lt el).symm]
    exact nw
  refine ⟨.ref s.heap.objs.size, upd H s.heap.objs.size (.tup [.int (i : Nat), xs[i]]), ?_, rfl, ?_, ?_, ?_⟩
  · refine I.turnedNew (t' := tk + 1) (ch := [e, it]) (fun x o nx g => ?_) own (Nat.le_refl _) ⟨?_, [.int i tk, w'], ?_, ?_⟩
    · have n1 : x ≠ e := fun z => nx (by rw [z]; simp)
      have n2 : x ≠ it := fun z => nx (by rw [z]; simp)
      rw [g2.2 x n1]
      exact far x o n1 n2 g
    · show 2 ≤ sizeLine
      decide
    · exact .cons ⟨_, rfl⟩ (.cons rx .nil)
    · exact ⟨_, pair, rfl, _, rfl⟩
  · exact ⟨_, _, rfl, I.hok.fresh (Nat.le_refl _), rfl, List.getElem?_eq_getElem lx⟩
  · refine ⟨⟨w', ?_⟩, st1.1.at fun o g => ?_, t.ne, lx⟩
    · have e1 : ((i + 1 : Nat) : Int) = (i : Int) + 1 := rfl
      rw [e1]
      exact en2
    · rw [g2.2 it t.ne.symm]
      exact g
  · intro x hx
    rw [upd_ne (show x ≠ s.heap.objs.size from fun z => Nat.lt_irrefl _ (z ▸ fresh x hx))]
    exact (own x hx).1
theorem eT_end (hc : X.calm = true) (I : Inv X pins σ H s) (own : ∀ x ∈ [e, it], FpOk X pins H x) (t : ESt e it a xs.length i s.heap) (ha : SqT X.K H a xs) (over : xs.length ≤ i) :
    wpAny (model X.prog X.w) X.A (pyNext (.ref e)) (fun r s1 => r = none ∧ Inv X pins σ H s1) E s := by
  obtain ⟨ws, rw', pw, _⟩ := I.tuple ha
  obtain ⟨na, ne⟩ := eT_apart I pw t
  obtain ⟨old, en⟩ := t.en
  have calm : X.A.in1.handled = none := I.ok.hd hc
  have sw : ws.toArray.size = xs.length := (List.size_toArray).trans rw'.length.symm
  have ei : i = ws.toArray.size := by
    have := t.le
    omega
  refine wpAny_pyNext_enum_endD (Draws.tuple calm it a na ws.toArray) en ⟨ei ▸ t.ti, pw⟩ fun h1 far => ⟨rfl, ?_⟩
  obtain ⟨f0, f1, f2, f3, f4, f5⟩ := own it (by simp)
  exact I.turned (t' := s.toks) (fun b o hb z => far b o hb z) f0 f1 f3 f4 f5
end
theorem turn_enumT {P : Program} {w : World} {K : PySem.W.Frag} {elts : List Expr} {kk : Nat} {tpos : Pos} {a e it : Addr} {xs : List V} :
    L2.Turn P w K (.Tuple elts kk tpos) (ItE K a xs) [e, it] e (ESt e it a xs.length) where
  mem := .head _
  obj := fun _ _ t => t.plain
  keep := fun _ _ _ t k => t.along k
  item := by
    rintro X rfl rfl rfl hc i pins s σ H E I own t ⟨ha, lx⟩
    exact eT_item hc I own t ha lx
  done := by
    rintro X rfl rfl rfl hc i pins s σ H E I own t ⟨ha, over⟩
    exact eT_end hc I own t ha over
  self := fun A i s Q E t q => by
    obtain ⟨old, en⟩ := t.en
    exact wpAny_pyIter_enum en q
def iEnT (K : PySem.W.Frag) (ta : TA) : TI := fun σ H R => ta σ H fun vs H1 => ∃ a xs, vs = [.ref a] ∧ SqT K H1 a xs ∧ R (ItE K a xs) H1
theorem pi_enT {X : Cx} {K : PySem.W.Frag} {e : Expr} {ta : TA} {p pos tpos : Pos} {elts : List Expr} {kk : Nat} (hK : X.K = K) (hg : Gl X "enumerate") (hm : X.mg "enumerate" = none) (ha : PA X [e] ta)
    (one : starEach [e] X.env = [(false, eval e X.env)] := by rfl) : PI X (.Tuple elts kk tpos) (.Call (.Name "enumerate" p) [e] [] pos) (iEnT K ta) where
  run := fun pins s σ H R I q => by
    subst hK
    refine Call_ (ld_blt I hg hm boot_enumerate (PyProof.Rows.callWith_type1 (thn (ha.run pos pins s σ H _ I q) ?_) one rfl))
    rintro us s1 ⟨_, H1, I1, rr, a, xs, rfl, qa, r⟩
    obtain ⟨ws, rw', pw, _⟩ := I1.tuple qa
    match us, rr with
    | [_], .cons rfl .nil =>
      refine call_enum (begins_tuple a ws.toArray) pw fun h1 en gi far => wpAny_pyIter_enum en ?_
      have young : ∀ k, FpOk X pins H1 (s1.heap.objs.size + k) := fun k => I1.fpOk (Nat.le_add_right _ k) (I1.hok.fresh (Nat.le_add_right _ k))
      refine ⟨_, [s1.heap.objs.size + 1, s1.heap.objs.size], _, _, H1, rfl, I1.kept (t' := s1.toks) far, turn_enumT (xs := xs), ⟨⟨_, en⟩, ⟨_, gi, rfl, rfl⟩, Nat.succ_ne_self _, Nat.zero_le _⟩, fun x hx => ?_, r⟩
      rcases List.mem_cons.mp hx with z | hx
      · rw [z]
        exact young 1
      · rw [List.mem_singleton.mp hx]
        exact young 0
section
variable {K : PySem.W.Frag} {σ : L2.St} {F : Hp} {tas : TA} {ds : List PyData}
theorem it_enumT (h : EvA tas σ F [.tuple ds]) : ItP (iEnT K tas) σ F (enD 0 ds) := fun S H1 f s R r => h S H1 f s _ fun vs H2 s2 rv => by
  obtain ⟨v1, rfl, r1⟩ := rpa1 rv
  cases r1 with
  | @tup a xs _ ha rx =>
    refine ⟨a, xs, rfl, .inl (.inl (offS_same _ _ ha)), r _ H2 s2 fun S' H' i f' s' => ⟨fun hi => ?_, fun hi => ⟨.inl (.inl (offS_same _ _ (s' _ _ ha))), by rw [rx.length]; rw [enD_len] at hi; exact hi⟩⟩⟩
    rw [enD_len] at hi
    have hx : i < xs.length := by rw [rx.length]; exact hi
    refine ⟨⟨.inl (.inl (offS_same _ _ (s' _ _ ha))), hx⟩, fun x H'' y => ?_⟩
    obtain ⟨T, x1, rfl, hT, rfl, y⟩ := y
    obtain ⟨d, hd, rd⟩ := rx.get y
    have g := enD_get ds 0 i hd
    rw [Nat.zero_add] at g
    refine ⟨same_new hT, _, g, .tup ?_ (.cons (.int _) (.cons ((rd.mono s').mono (offS_mono (same_new hT))) .nil))⟩
    rw [offS_at (f'.new hT), upd_same]
end
end Ca

set_option maxHeartbeats 4000000
namespace Q
open PySem PySem.Spec PyProof.Rows L2 Ca
theorem cq_at {a : At} (g : Good a) : Cq 1 (atD a) := by
  refine cq_tup fun d hd => ?_
  have hk : PyData.strOk a.k = true := by
    have k := g.k
    unfold kindOk inV at k
    rw [List.any_eq_true] at k
    obtain ⟨y, hy, e⟩ := k
    rcases List.mem_cons.mp hy with q | hy
    · subst q
      have e1 : PySem.Str.ofString "A" = a.k := by simpa [eqV] using e
      rw [← e1]
      decide +kernel
    · rcases List.mem_cons.mp hy with q | hy
      · subst q
        have e1 : PySem.Str.ofString "B" = a.k := by simpa [eqV] using e
        rw [← e1]
        decide +kernel
      · rcases List.mem_cons.mp hy with q | hy
        · subst q
          have e1 : PySem.Str.ofString "C" = a.k := by simpa [eqV] using e
          rw [← e1]
          decide +kernel
        · cases hy
  rcases List.mem_cons.mp hd with e | hd
  · rw [e]
    exact ⟨by simp [nd], by simp [PyData.canLay0, hk], by simp [PyData.depth]⟩
  · rcases List.mem_cons.mp hd with e | hd
    · rw [e]
      exact cq_int _
    · rcases List.mem_cons.mp hd with e | hd
      · rw [e]
        exact cq_int _
      · cases hd
theorem cq_ats {as : List At} (g : ∀ a ∈ as, Good a) : Cq 2 (.list (as.map atD)) := cq_lst fun d hd => by
  obtain ⟨a, ha, rfl⟩ := List.mem_map.mp hd
  exact cq_at (g a ha)
theorem cqA_nil : Cq 1 (.list []) := cq_lst fun d hd => by cases hd
end Q

set_option maxHeartbeats 4000000
namespace Q
open PySem PySem.Spec PyProof.Rows L2 Ca
theorem cq_nil : Cq 1 (.list []) := cq_lst fun d hd => by cases hd
abbrev s_cq : Stmt := top 42
/-- what isinstance asks of the class -/
structure IsiC (K : PySem.W.Frag) (C : Addr) : Prop where
  ha : PySem.W.findIn K (.ref C) "__class__" = some (some (.builtin "object.__class__"))
  hn : PySem.W.specialIn K (.builtin "object.__class__") "__get__" = some (some (.builtin "getset_descriptor.__get__"))
  htk : PySem.W.takesIn K (.builtin "object.__class__") = some true
  hm : PySem.W.mroIn K C (.type "object") = some true
  kit : PySem.W.kitOne K (.ref C) (.ref C) = some true
def IAtoms (C : Addr) : Hp → List V → (Hp → V → Prop) → Prop := fun F vs P => ∃ v as, vs = [v] ∧ QV C as F v ∧ P = fun H v => Rp H v (.tuple (as.map atD))
theorem atoms_imp {C : Addr} : ∀ vs H Q E, spQ (IAtoms C) vs H Q E → spAtoms C vs H Q E := by
  rintro vs H Q E ⟨S, P, f, ⟨v, as, rfl, ⟨x, dx, p, rfl, hq⟩, rfl⟩, q⟩
  exact ⟨x, dx, p, as, rfl, hq.mono offS_same, q _ H (Same.refl _) hq.atoms⟩
theorem qv_atoms {C : Addr} {as : List At} : ∀ F v, QV C as F v → IAtoms C F [v] (fun H v => Rp H v (.tuple (as.map atD))) ∧ ∃ a dx fs, v = .ref a ∧ F a = some (.ins C dx fs) := fun F v h => by
  refine ⟨⟨v, as, rfl, h, rfl⟩, ?_⟩
  obtain ⟨x, dx, p, rfl, hq⟩ := h
  obtain ⟨o, u, ns, h1, _⟩ := hq.obj
  exact ⟨x, dx, _, rfl, h1⟩
def IText (C : Addr) : Hp → List V → (Hp → V → Prop) → Prop := fun F vs P => ∃ v as, vs = [v] ∧ QV C as F v ∧ as.length ≤ 30 ∧ (∀ a ∈ as, Good a) ∧ P = fun H v => Rp H v (.str (txt as))
theorem qtext_imp {C : Addr} : ∀ vs H Q E, spQ (IText C) vs H Q E → spQText C vs H Q E := by
  rintro vs H Q E ⟨S, P, f, ⟨v, as, rfl, ⟨x, dx, p, rfl, hq⟩, hz, g, rfl⟩, q⟩
  exact ⟨x, dx, p, as, rfl, hq.mono offS_same, hz, g, fun H' s => q _ H' s (.str _)⟩
theorem qv_text {C : Addr} {as : List At} (hz : as.length ≤ 30) (g : ∀ a ∈ as, Good a) : ∀ F v, QV C as F v → IText C F [v] (fun H v => Rp H v (.str (txt as))) ∧ ∃ a dx fs, v = .ref a ∧ F a = some (.ins C dx fs) ∧ fs.lookup ("text" : PySem.Str) = none := fun F v h => by
  refine ⟨⟨v, as, rfl, h, hz, g, rfl⟩, ?_⟩
  obtain ⟨x, dx, p, rfl, hq⟩ := h
  obtain ⟨o, u, ns, h1, _⟩ := hq.obj
  exact ⟨x, dx, _, rfl, h1, qf_no _ _ _ (by decide +kernel) (by decide +kernel) (by decide +kernel)⟩
def ICq (C : Addr) : Hp → List V → (Hp → V → Prop) → Prop := fun F vs P => ∃ v as, vs = [v] ∧ QV C as F v ∧ P = fun H v => Rp H v .none
theorem sc_cq : FnScope ["thing"] ["thing"] (defScope s_cq) := ⟨rfl, rfl, rfl, by decide +kernel, rfl, by decide +kernel, by decide +kernel⟩
section
variable {K : PySem.W.Frag} {σ : L2.St} {F : Hp} {ta te : TE} {C N : Addr} {as : List At} {E : XK}
/-- isinstance(x, Question) of a question -/
theorem e_isiQ (cl : Cls K C) (ic : IsiC K C) (h : EvP ta σ F (QV C as)) (hc : EvP te σ F fun _ v => v = .ref C) : EvD (tCB (rIsi K) (tCons ta (tCons te tNil))) σ F (.bool true) := fun S H1 f s Q q =>
  h S H1 f s _ fun v H2 s2 p => hc S H2 (f.mono s2) (s.trans (offS_mono s2)) _ fun w H3 s3 ew => by
    subst ew
    obtain ⟨x, dx, pp, rfl, hq⟩ := p
    obtain ⟨o, u, ns, h1, _⟩ := hq.obj
    exact ⟨_, _, _, _, true, rfl, .own C, .base (.ins (s3 _ _ (offS_same _ _ h1)) cl ic.ha ic.hn ic.htk ic.hm), ic.kit, q _ H3 (s2.trans s3) (.bl _)⟩
end
section
variable {P : Program} {w : World} {K : PySem.W.Frag} {mg : PySem.Str → Option Value} {base : Heap}
theorem ok_cq {f C N : Addr} {fd : FuncData} (F : FnP K "check_question" s_cq f fd) (T : Tx K mg) (TQ : QT K mg C N) (ic : IsiC K C) (gC : mg "Question" = some (.ref C)) : FnOk P w K mg base CX0 1 f fd ["thing"] (spQ (ICq C)) := by
  refine F.ok sc_cq (spQ_len (by rintro _ _ _ ⟨v, as, rfl, _⟩; rfl)) (fun cdv A outer s H vs Q E hr h => ?_)
  obtain ⟨S, P0, fr, ⟨v0, as, rfl, hq, rfl⟩, q⟩ := h
  refine ⟨_, PSs.nox (pss_one (ps_if (pt_not (pt_val (pe_callB (call_isi : CallR _ _ (rIsi K)) (by rfl) T.isi bIsi (pa_cons (pv 0) (pa_cons (pe_glob (v := .ref C) rfl gC rfl) pa_nil))))) pss_never pss_nil)), ?_⟩
  exact go_ifF fr (b_not (b_val (e_isiQ TQ.cl ic (e_varP (P := QV C as) rfl fun _ s => hq.mono s) (fun S H1 f s Q q => q _ H1 (Same.refl _) rfl)))) fun H1 s1 fr1 => q _ H1 s1 .non
end
end Q

set_option maxHeartbeats 4000000
namespace TM
open PySem PySem.Spec PyProof.Rows L2
/-! sets of tuples of ints and texts: adding, and how many there are -/
abbrev Ky (P : Program) (w : World) (h : Heap) (k : List Key) (b : Addr) : Prop := IsTupleKey (mixKind P w) h k b
abbrev hs1 (P : Program) (w : World) (k : List Key) : Int := tupleKeyHash (mixKind P w) k
abbrev ent (P : Program) (w : World) (r : Addr × List Key) : Int × Value := (hs1 P w r.2, Value.ref r.1)
section
variable {P : Program} {w : World} {A : Around} {E : Value → Shared → Prop} {s : Shared}
/-- what lies in a key is an int or a text -/
def Calm (v : Value) : Prop := (∀ n, ofAClassStatement n v = pure false) ∧ ∀ n, hashByValue n v = pure true ∨ hashByValue n v = pure false
theorem calm_of {k : Key} {v : Value} (h : (mixKind P w).is k v = true) : Calm v := by
  cases v with
  | int i t => exact ⟨fun n => ofAClass_int n i t, fun n => .inl (hashBy_int n i t)⟩
  | str x t => exact ⟨fun n => by cases n <;> rfl, fun n => .inr (by cases n <;> rfl)⟩
  | _ => cases k <;> exact absurd h (by first | (intro z; exact Bool.noConfusion z) | decide)
theorem calm_all {k : List Key} {vs : List Value} (h : ItemsAre (mixKind P w) k vs) : ∀ v ∈ vs, Calm v := by
  induction h with
  | nil => exact fun v z => nomatch z
  | cons h1 _ ih =>
    intro v z
    cases z with
    | head => exact calm_of h1
    | tail _ z => exact ih v z
theorem noClass {k : List Key} {b : Addr} {Q : Bool → Shared → Prop} (key : Ky P w s.heap k b) (q : Q false s) : wpAny (model P w) A (ofAClassStatement 8 (.ref b)) Q E s := by
  have ty := key.typeIs
  obtain ⟨o, its, n, at_, _, dat, all⟩ := key
  unfold ofAClassStatement
  refine wpAny_bind (wpAny_typeOf ty ?_)
  dsimp only
  have tt : (("tuple" : String) == "tuple") = true := by decide
  simp only [tt, if_true, Bool.not_true, Bool.false_eq_true, if_false]
  try refine wpAny_bind (wpAny_pure ?_)
  try simp only [Bool.not_true, Bool.false_eq_true, if_false]
  show wpAny _ _ (seqItems? (.ref b) >>= _) _ _ s
  refine wpAny_bind (wpAny_seqItems at_ dat ?_)
  dsimp only
  refine wpAny_bind ?_
  show wpAny _ _ (forIn its _ _) _ _ s
  rw [← Array.forIn_toList]
  refine wpAny_forIn_list _ (fun more r s1 => r.1 = none ∧ s1 = s ∧ ∀ v ∈ more, Calm v) _ ?_ ?_ _ _ ⟨rfl, rfl, calm_all all⟩
  · rintro v more r s1 ⟨_, rfl, c⟩
    rw [(c v (.head _)).1]
    refine wpAny_bind (wpAny_pure ?_)
    simp only [Bool.false_eq_true, if_false]
    exact wpAny_pure ⟨rfl, rfl, fun u z => c u (.tail _ z)⟩
  · rintro ⟨r1, r2⟩ s1 ⟨z, rfl, _⟩
    simp only at z
    subst z
    exact wpAny_pure q
theorem anyHash {k : List Key} {b : Addr} {Q : Bool → Shared → Prop} (key : Ky P w s.heap k b) (q : ∀ c, Q c s) : wpAny (model P w) A (hashByValue 8 (.ref b)) Q E s := by
  have ty := key.typeIs
  obtain ⟨o, its, n, at_, _, dat, all⟩ := key
  unfold hashByValue
  refine wpAny_bind (wpAny_specialOf ty F.slot_tuple_hash.lookup ?_)
  show wpAny _ _ (seqItems? (.ref b) >>= _) _ _ s
  refine wpAny_bind (wpAny_seqItems at_ dat ?_)
  refine wpAny_bind ?_
  show wpAny _ _ (forIn its _ _) _ _ s
  rw [← Array.forIn_toList]
  refine wpAny_forIn_list _ (fun more r s1 => r.1 = none ∧ s1 = s ∧ ∀ v ∈ more, Calm v) _ ?_ ?_ _ _ ⟨rfl, rfl, calm_all all⟩
  · rintro v more r s1 ⟨_, rfl, c⟩
    rcases (c v (.head _)).2 7 with e | e
    · rw [e]
      refine wpAny_bind (wpAny_pure ?_)
      simp only [Bool.not_true, Bool.false_eq_true, if_false]
      exact wpAny_pure ⟨rfl, rfl, fun u z => c u (.tail _ z)⟩
    · rw [e]
      refine wpAny_bind (wpAny_pure ?_)
      simp only [Bool.not_false, if_true]
      exact wpAny_pure (wpAny_pure (q _))
  · rintro ⟨r1, r2⟩ s1 ⟨z, rfl, _⟩
    simp only at z
    subst z
    exact wpAny_pure (q _)
/-- nobody sees the search -/
theorem unseen {k : List Key} {b : Addr} {Q : Bool → Shared → Prop} (key : Ky P w s.heap k b) {ys : List Value} (others : ∀ y ∈ ys, ∃ m c, y = Value.ref c ∧ Ky P w s.heap m c) (q : Q false s) :
    wpAny (model P w) A (searchCouldBeSeen (.ref b) ys) Q E s := by
  unfold searchCouldBeSeen
  refine wpAny_bind ?_
  refine wpAny_forIn_list _ (fun more r s1 => r.1 = none ∧ s1 = s ∧ ∀ y ∈ more, ∃ m c, y = Value.ref c ∧ Ky P w s.heap m c) _ ?_ ?_ _ _ ⟨rfl, rfl, others⟩
  · rintro v more r s1 ⟨_, rfl, c⟩
    obtain ⟨m, d, rfl, kd⟩ := c v (.head _)
    have c' : ∀ y ∈ more, ∃ m c, y = Value.ref c ∧ Ky P w s1.heap m c := fun u z => c u (.tail _ z)
    dsimp only
    by_cases same : (b == d || (carriedByValue (.ref b) && carriedByValue (.ref d))) = true
    · exact wp_if_pos same (wpAny_pure ⟨rfl, rfl, c'⟩)
    · refine wp_if_neg same (wpAny_bind (wpAny_eqIsQuiet_tuple key ?_))
      simp only [Bool.not_true, Bool.false_eq_true, if_false]
      refine wpAny_bind (wpAny_eqIsQuiet_tuple kd ?_)
      simp only [Bool.not_true, Bool.false_eq_true, if_false]
      refine wpAny_bind (noClass key ?_)
      simp only [Bool.false_eq_true, if_false]
      refine wpAny_bind (noClass kd ?_)
      simp only [Bool.false_eq_true, if_false]
      exact wpAny_pure ⟨rfl, rfl, c'⟩
  · rintro ⟨r1, r2⟩ s1 ⟨z, rfl, _⟩
    simp only at z
    subst z
    exact wpAny_pure q
end
end TM

set_option maxHeartbeats 4000000
namespace TM
open PySem PySem.Spec PyProof.Rows L2
/-- the set at d has the rows rs -/
structure Bag (P : Program) (w : World) (h : Heap) (d : Addr) (rs : List (Addr × List Key)) (es : Array (Int × Value)) (ep : Nat) (t : SetTable) : Prop where
  here : ∃ o, h.get? d = some o ∧ o.ExactSet ∧ o.data = .set es ep t
  ents : es.toList = rs.map (ent P w)
  tab : TabOk t (rs.map fun r => hs1 P w r.2)
  dist : (rs.map Prod.snd).Nodup
  keys : ∀ r ∈ rs, Ky P w h r.2 r.1
  gap : rs.length * 5 < t.mask * 3
  led : (w.params.followText "set-order" = true) ∨ (t.led = true)
section
variable {P : Program} {w : World} {A : Around} {E : Value → Shared → Prop} {s : Shared} {d : Addr} {rs : List (Addr × List Key)} {es : Array (Int × Value)} {ep : Nat} {t : SetTable}
theorem ents_len (e : es.toList = rs.map (ent P w)) : es.size = rs.length := by
  rw [← Array.length_toList, e, List.length_map]
theorem Bag.len {h : Heap} (B : Bag P w h d rs es ep t) : es.size = rs.length := ents_len B.ents
theorem fits_of (h1 : t.place.size = es.size) (h2 : t.dummies = #[]) (h3 : es.size ≤ t.mask) : t.fits es.size = true := by
  unfold SetTable.fits SetTable.fill
  rw [h2, Bool.and_eq_true, beq_iff_eq, decide_eq_true_eq]
  exact ⟨h1, by rw [h1]; exact h3⟩
theorem Bag.fit {h : Heap} (B : Bag P w h d rs es ep t) : t.fits es.size = true := by
  have a := B.tab.sz
  have b := B.len
  have c := B.gap
  rw [List.length_map] at a
  exact fits_of (by omega) B.tab.dm (by omega)
theorem Bag.row {h : Heap} (B : Bag P w h d rs es ep t) {i : Nat} {r : Addr × List Key} (e : rs[i]? = some r) : es[i]? = some (ent P w r) := by
  rw [← Array.getElem?_toList, B.ents, List.getElem?_map, e]
  rfl
/-- the c-th place of the way of a hash -/
abbrev stp (t : SetTable) (x : Int) (c : Nat) : SetTable.Probe := nth t.mask (runAt t.mask (SetTable.bits x % (t.mask + 1)) (SetTable.bits x)) c
theorem stp_no (t : SetTable) (x : Int) : ∀ c, (stp t x c).dummy = none := by
  have : ∀ (c : Nat) (p : SetTable.Probe), p.dummy = none → (nth t.mask p c).dummy = none := fun c => by
    induction c with
    | zero => exact fun p z => z
    | succ c ih => exact fun p z => ih (adv t.mask p) (by unfold adv; split <;> exact z)
  exact fun c => this c _ rfl
theorem seek (B : Bag P w s.heap d rs es ep t) {x : Addr} {k : List Key} (key : Ky P w s.heap k x) (hu : A.units < cLine) {N : Nat} (short : N < 10 * SetTable.turns t.mask)
    (free : way t.mask (hs1 P w k) N ∉ t.place.toList) (busy : ∀ c, c < N → way t.mask (hs1 P w k) c ∈ t.place.toList) {Q : SetFound → Shared → Prop}
    (yes : k ∈ rs.map Prod.snd → Q (.there none) s) (no : k ∉ rs.map Prod.snd → Q (.free (way t.mask (hs1 P w k) N) false) s) :
    ∀ (g c : Nat) (from_ : Option SetTable.Probe), from_.getD (t.probeStart (hs1 P w k)) = stp t (hs1 P w k) c → c ≤ N → N < g + c →
      (∀ (i : Nat) r, rs[i]? = some r → r.2 = k → ∃ c', c ≤ c' ∧ c' < N ∧ t.place.toList[i]? = some (way t.mask (hs1 P w k) c')) →
      wpAny (model P w) A (setSearchFrom d (.ref x) (hs1 P w k) true g from_) Q E s
  | 0, c, _, _, h1, h2, _ => absurd h2 (by omega)
  | g + 1, c, from_, st, cN, gN, ahead => by
    obtain ⟨o, at_, ex, dat⟩ := B.here
    rw [setSearchFrom_succ]
    refine wpAny_bind (wpAny_setState_of at_ dat B.fit ?_)
    dsimp only
    have ng : ¬ t.gaveWay = true := by
      unfold SetTable.gaveWay
      rw [mask_odd B.tab.mok]
      decide
    refine wp_if_neg ng ?_
    try refine wpAny_bind (wpAny_pure ?_)
    have on : ∀ q, nth t.mask (stp t (hs1 P w k) c) q = stp t (hs1 P w k) (c + q) := fun q => (nth_add t.mask c _ q).symm
    have onj : ∀ q, (nth t.mask (stp t (hs1 P w k) c) q).j = way t.mask (hs1 P w k) (c + q) := fun q => congrArg SetTable.Probe.j (on q)
    have eN : c + (N - c) = N := by omega
    have hsh : ∀ (i : Nat) r, rs[i]? = some r → (es[i]?.map (·.1)).getD 0 = hs1 P w r.2 := fun i r e => by
      rw [B.row e]
      rfl
    rcases go_spec t B.tab.ris B.tab.dm (fun i => (es[i]?.map (·.1)).getD 0) (hs1 P w k) (10 * SetTable.turns t.mask) (N - c) _ (stp_no t (hs1 P w k) c) (by omega)
      (fun q z => by rw [onj]; exact busy (c + q) (by omega)) (by rw [onj, eN]; exact free) with ⟨q, i, lq, pi, hi, none_, goes⟩ | ⟨none_, goes⟩
    · have met : t.probe (fun i => (es[i]?.map (·.1)).getD 0) (hs1 P w k) (from_.getD (t.probeStart (hs1 P w k))) = some (.candidate (way t.mask (hs1 P w k) (c + q)) i (stp t (hs1 P w k) (c + (q + 1)))) := by
        rw [st, ← onj, ← on]
        exact goes
      rw [met]
      dsimp only
      rw [onj] at pi
      have il : i < rs.length := by
        have a := (List.getElem?_eq_some_iff.mp pi).1
        have b := B.tab.sz
        rw [List.length_map] at b
        rw [Array.length_toList] at a
        omega
      obtain ⟨r, er⟩ : ∃ r, rs[i]? = some r := ⟨_, List.getElem?_eq_getElem il⟩
      have mr := List.mem_of_getElem? er
      have go_on : wpAny (model P w) A (searchRest d (.ref x) (hs1 P w k) true g es t (way t.mask (hs1 P w k) (c + q)) i (stp t (hs1 P w k) (c + (q + 1)))) Q E s := by
        unfold searchRest
        rw [B.row er]
        dsimp only
        refine wpAny_bind (wpAny_holding (wpAny_eqBool_tuple hu (B.keys r mr) key ?_))
        refine wpAny_bind (wpAny_setState_of at_ dat B.fit ?_)
        dsimp only
        by_cases e : r.2 = k
        · exact wp_if_pos (by simp [e]) (wpAny_pure (yes (List.mem_map.mpr ⟨r, mr, e⟩)))
        · refine wp_if_neg (by simp [e]) ?_
          try refine wpAny_bind (wpAny_pure ?_)
          rw [sameMem]
          dsimp only
          have live := slot_live B.tab.ris pi
          simp only [if_true, live, B.row er]
          refine wpAny_bind (wpAny_isSame_ref_self (wpAny_bind (wpAny_pure ?_)))
          simp only [if_true]
          refine wp_if_neg (by simp [e]) ?_
          refine seek B key hu short free busy yes no g (c + (q + 1)) _ rfl (by omega) (by omega) fun i0 r0 e0 k0 => ?_
          obtain ⟨c', u1, u2, u3⟩ := ahead i0 r0 e0 k0
          refine ⟨c', ?_, u2, u3⟩
          have n1 : ¬ c' < c + q := fun z => none_ (c' - c) i0 (by omega) (by rw [onj, show c + (c' - c) = c' by omega]; exact u3) (by rw [hsh i0 r0 e0, k0])
          have n2 : c' ≠ c + q := fun z => by
            rw [z] at u3
            have l2 := slot_live B.tab.ris u3
            rw [live] at l2
            injection l2 with l2
            rw [← l2, er] at e0
            cases e0
            exact e k0
          omega
      by_cases hl : t.led = true
      · refine wp_if_neg (by simp [hl]) ?_
        try refine wpAny_bind (wpAny_pure ?_)
        exact go_on
      · refine wp_if_pos (by simp [hl]) (wpAny_bind (unseen key (fun y my => ?_) ?_))
        · obtain ⟨z, mz, ez⟩ := List.mem_map.mp my
          have mz2 : z ∈ es ∧ z.1 = hs1 P w k := by simpa using mz
          have mz3 : z ∈ es.toList := by simpa using mz2.1
          rw [B.ents] at mz3
          obtain ⟨r1, m1, e1⟩ := List.mem_map.mp mz3
          exact ⟨r1.2, r1.1, by rw [← ez, ← e1], B.keys r1 m1⟩
        · refine wp_if_neg (by decide) ?_
          try refine wpAny_bind (wpAny_pure ?_)
          exact go_on
    · have met : t.probe (fun i => (es[i]?.map (·.1)).getD 0) (hs1 P w k) (from_.getD (t.probeStart (hs1 P w k))) = some (.empty (way t.mask (hs1 P w k) N) none) := by
        have e : way t.mask (hs1 P w k) N = (nth t.mask (stp t (hs1 P w k) c) (N - c)).j := by rw [onj, eN]
        rw [st, e]
        exact goes
      rw [met]
      dsimp only
      refine wpAny_pure (no fun m => ?_)
      obtain ⟨r0, m0, k0⟩ := List.mem_map.mp m
      obtain ⟨i0, l0, e0⟩ := List.getElem_of_mem m0
      have e00 : rs[i0]? = some r0 := by rw [List.getElem?_eq_getElem l0, e0]
      obtain ⟨c', u1, u2, u3⟩ := ahead i0 r0 e00 k0
      exact none_ (c' - c) i0 (by omega) (by rw [onj, show c + (c' - c) = c' by omega]; exact u3) (by rw [hsh i0 r0 e00, k0])
theorem sought (B : Bag P w s.heap d rs es ep t) {x : Addr} {k : List Key} (key : Ky P w s.heap k x) (hu : A.units < cLine) {Q : SetFound → Shared → Prop} (yes : k ∈ rs.map Prod.snd → Q (.there none) s)
    (no : ∀ N, k ∉ rs.map Prod.snd → way t.mask (hs1 P w k) N ∉ t.place.toList → (∀ c, c < N → way t.mask (hs1 P w k) c ∈ t.place.toList) → Q (.free (way t.mask (hs1 P w k) N) false) s) :
    wpAny (model P w) A (setSearch d (.ref x) (hs1 P w k) true) Q E s := by
  have gap := B.gap
  obtain ⟨N, short, free, busy⟩ := B.tab.first (by rw [List.length_map]; omega) (hs1 P w k)
  have few : N < 100000 := by
    have : SetTable.turns t.mask ≤ 142 := by
      unfold SetTable.turns
      rcases B.tab.mok with e | e | e <;> omega
    omega
  unfold setSearch
  refine seek B key hu short free busy yes (fun z => no N z free busy) 100000 0 none rfl (Nat.zero_le _) (by omega) fun i r er kr => ?_
  have lr : (rs.map fun r => hs1 P w r.2)[i]? = some (hs1 P w k) := by
    rw [List.getElem?_map, er, ← kr]
    rfl
  have li : i < t.place.toList.length := by
    have a := (List.getElem?_eq_some_iff.mp er).1
    have b := B.tab.sz
    rw [List.length_map] at b
    rw [Array.length_toList]
    omega
  obtain ⟨c, hc, e⟩ := B.tab.before free lr (List.getElem?_eq_getElem li)
  exact ⟨c, Nat.zero_le _, hc, by rw [List.getElem?_eq_getElem li, e]⟩
end
end TM

set_option maxHeartbeats 4000000
namespace TM
open PySem PySem.Spec PyProof.Rows L2
section
variable {P : Program} {w : World} {A : Around} {E : Value → Shared → Prop} {s : Shared} {d : Addr} {rs : List (Addr × List Key)} {es : Array (Int × Value)} {ep : Nat} {t : SetTable}
/-- a key outlives a change of the set -/
theorem Ky.stays {h h' : Heap} {k : List Key} {b : Addr} {o : Obj} (key : Ky P w h k b) (at_ : h.get? d = some o) (dat : o.data = .set es ep t) (sb : Heap.SameBut d h h') : Ky P w h' k b := by
  obtain ⟨u, its, n, a1, a2, a3, a4⟩ := key
  refine ⟨u, its, n, (sb.2 b fun z => ?_).trans a1, a2, a3, a4⟩
  rw [z, at_] at a1
  cases a1
  rw [dat] at a3
  cases a3
/-- rows in another order -/
theorem in_order (e : es.toList = rs.map (ent P w)) {ord : List Nat} (pm : ord.Perm (List.range rs.length)) :
    ∃ rs' : List (Addr × List Key), ord.filterMap (fun i => es[i]?) = rs'.map (ent P w) ∧ rs'.Perm rs ∧ (rs'.map fun r => hs1 P w r.2) = ord.map fun i => (es.map (·.1)).getD i 0 := by
  have at_ : ∀ i (z : i < rs.length), es[i]? = some (ent P w rs[i]) := fun i z => by
    rw [← Array.getElem?_toList, e, List.getElem?_map, List.getElem?_eq_getElem z]
    rfl
  refine ⟨ord.filterMap fun i => rs[i]?, ?_, ?_, ?_⟩
  · rw [List.map_filterMap]
    congr 1
    funext i
    rw [← Array.getElem?_toList, e, List.getElem?_map]
  · have all : (List.range rs.length).filterMap (fun i => rs[i]?) = rs := by
      have : ∀ n, n ≤ rs.length → (List.range n).filterMap (fun i => rs[i]?) = rs.take n := fun n => by
        induction n with
        | zero => exact fun _ => by simp
        | succ n ih =>
          intro z
          rw [List.range_succ, List.filterMap_append, ih (by omega), Ca.take_more (List.getElem?_eq_getElem z)]
          congr 1
          simp [List.getElem?_eq_getElem (show n < rs.length from z)]
      have z := this rs.length (Nat.le_refl _)
      rw [List.take_length] at z
      exact z
    have := pm.filterMap fun i => rs[i]?
    rw [all] at this
    exact this
  · have : ∀ l : List Nat, (∀ i ∈ l, i < rs.length) → (l.filterMap fun i => rs[i]?).map (fun r => hs1 P w r.2) = l.map fun i => (es.map (·.1)).getD i 0 := fun l => by
      induction l with
      | nil => exact fun _ => rfl
      | cons i l ih =>
        intro z
        have li := z i (.head _)
        have g : (es.map (·.1)).getD i 0 = hs1 P w rs[i].2 := by
          have : (es.map (·.1))[i]? = some (hs1 P w rs[i].2) := by
            rw [Array.getElem?_map, at_ i li]
            rfl
          simp [Array.getD_eq_getD_getElem?, this]
        rw [List.filterMap_cons_some (List.getElem?_eq_getElem li), List.map_cons, List.map_cons, ih fun j m => z j (.tail _ m), g]
    exact this ord fun i m => List.mem_range.mp (pm.mem_iff.mp m)
/-- the table grows to 32 places -/
theorem grows {o : Obj} (at_ : s.heap.get? d = some o) (ex : o.ExactSet) (dat : o.data = .set es ep t) (ents : es.toList = rs.map (ent P w)) (sz : t.place.size = es.size) (dm : t.dummies = #[]) (fl : es.size ≤ t.mask)
    (dist : (rs.map Prod.snd).Nodup) (keys : ∀ r ∈ rs, Ky P w s.heap r.2 r.1) (l5 : rs.length = 5) (led : w.params.followText "set-order" = true ∨ t.led = true) {Q : Unit → Shared → Prop}
    (q : ∀ h' rs' es' ep' t', Heap.SameBut d s.heap h' → Bag P w h' d rs' es' ep' t' → rs'.Perm rs → Q () { s with heap := h' }) : wpAny (model P w) A (setRelay d (SetTable.grown 5)) Q E s := by
  have ln := ents_len ents
  obtain ⟨t', ord, e, pm, T, em, el, _, _⟩ := relaid_ok t (hs := es.map (·.1)) (wanted := SetTable.grown 5) (M := 31) (by rw [size_20]) (.inr (.inl rfl)) (by rw [Array.size_map, ln]; omega)
  rw [Array.size_map, ln] at pm
  obtain ⟨rs', r1, r2, r3⟩ := in_order ents pm
  rw [← r3] at T
  have r1' : (ord.filterMap (es[·]?)).toList = rs'.map (ent P w) := by
    rw [Array.toList_filterMap]
    exact r1
  have ln' : (ord.filterMap (es[·]?)).size = es.size := by rw [ents_len r1', r2.length_eq, ln]
  rw [setRelay_eq]
  refine wpAny_bind (wpAny_setState_of at_ dat (fits_of sz dm fl) ?_)
  dsimp only
  refine wp_if_neg (by rw [sizeLine_eq, size_20]; omega) ?_
  try refine wpAny_bind (wpAny_pure ?_)
  rw [e]
  dsimp only
  refine wpAny_bind (wp_if_neg (by rw [ln']; simp) ?_)
  try refine wpAny_bind (wpAny_pure ?_)
  refine wpAny_pure ?_
  dsimp only
  have sb : Heap.SameBut d s.heap (s.heap.update d (Obj.putSet (ord.filterMap (es[·]?)) t')) := Heap.SameBut.update ..
  refine wpAny_storeSet_of at_ dat (q _ rs' _ (ep + 1) t' sb ⟨⟨_, store_at at_ dat, ⟨ex.1, ex.2.1, ex.2.2⟩, rfl⟩, r1', T, (r2.map Prod.snd).nodup_iff.mpr dist, fun r m => (keys r (r2.mem_iff.mp m)).stays at_ dat sb, ?_, by rw [el]; exact led⟩ r2) (by rw [ln', ln, sizeLine_eq]; omega)
  rw [r2.length_eq, em]
  omega
theorem adds (B : Bag P w s.heap d rs es ep t) {x : Addr} {k : List Key} (key : Ky P w s.heap k x) (hu : A.units < cLine) (few : rs.length ≤ 16) {Q : Bool → Shared → Prop}
    (q : ∀ b h' rs' es' ep' t', Heap.SameBut d s.heap h' → Bag P w h' d rs' es' ep' t' → (k ∈ rs.map Prod.snd → rs' = rs) → (k ∉ rs.map Prod.snd → rs'.Perm ((x, k) :: rs)) → Q b { s with heap := h' }) :
    wpAny (model P w) A (setAddHashed d (.ref x) (hs1 P w k)) Q E s := by
  obtain ⟨o, at_, ex, dat⟩ := B.here
  have ln := B.len
  have gap := B.gap
  unfold setAddHashed
  refine wpAny_holding ?_
  rw [show (100000 : Nat) = 99999 + 1 from rfl, setAddHashedIn_succ]
  refine wpAny_bind (wpAny_setState_of at_ dat B.fit ?_)
  dsimp only
  refine wp_if_neg (by simp [byScan, Value.scannable]) ?_
  try refine wpAny_bind (wpAny_pure ?_)
  refine wpAny_bind (sought B key hu (fun m => ?_) fun N m free busy => ?_)
  · dsimp only
    exact wpAny_pure (q false s.heap rs es ep t (Heap.SameBut.refl d s.heap) B (fun _ => rfl) fun z => absurd m z)
  · dsimp only
    refine wpAny_bind (wpAny_setState_of at_ dat B.fit ?_)
    dsimp only
    obtain ⟨p1, p2, p3, p4, p5, _, _, _, p9⟩ := B.tab.put free busy
    generalize hpt : t.put (way t.mask (hs1 P w k) N) = pt at p1 p3 p4 p5 p9 ⊢
    obtain ⟨t1, p⟩ := pt
    dsimp only at p1 p3 p4 p5 p9 ⊢
    subst p1
    have rest : ∀ t2 : SetTable, t2.place = t1.place → t2.dummies = t1.dummies → t2.mask = t1.mask → t2.fill = t1.fill → t2.led = t1.led → TabOk t2 ((rs.map fun r => hs1 P w r.2).take (SetTable.below t.place (way t.mask (hs1 P w k) N)) ++ hs1 P w k :: (rs.map fun r => hs1 P w r.2).drop (SetTable.below t.place (way t.mask (hs1 P w k) N))) →
        wpAny (model P w) A (do
          storeSet d (SetTable.insertAt es (SetTable.below t.place (way t.mask (hs1 P w k) N)) (hs1 P w k, Value.ref x)) t2
          if !false && t2.tooFull then setRelay d (SetTable.grown (es.size + 1))
          return true) Q E s := by
      intro t2 e1 e2 e3 e4 e5 T2
      have led2 : w.params.followText "set-order" = true ∨ t2.led = true := by rw [e5, p5]; exact B.led
      have ins : (SetTable.insertAt es (SetTable.below t.place (way t.mask (hs1 P w k) N)) (hs1 P w k, Value.ref x)).toList = (rs.take (SetTable.below t.place (way t.mask (hs1 P w k) N)) ++ (x, k) :: rs.drop (SetTable.below t.place (way t.mask (hs1 P w k) N))).map (ent P w) := by
        rw [SetTable.toList_insertAt, B.ents, List.map_append, List.map_cons, List.map_take, List.map_drop]
      generalize SetTable.below t.place (way t.mask (hs1 P w k) N) = p at p2 T2 ins ⊢
      have pm : (rs.take p ++ (x, k) :: rs.drop p).Perm ((x, k) :: rs) := put_perm rs p (x, k)
      have hhs : ((rs.map fun r => hs1 P w r.2).take p ++ hs1 P w k :: (rs.map fun r => hs1 P w r.2).drop p) = (rs.take p ++ (x, k) :: rs.drop p).map fun r => hs1 P w r.2 := by
        rw [List.map_append, List.map_cons, List.map_take, List.map_drop]
      rw [hhs] at T2
      generalize rs.take p ++ (x, k) :: rs.drop p = rs1 at pm T2 ins
      generalize SetTable.insertAt es p (hs1 P w k, Value.ref x) = es1 at ins ⊢
      have l1 : rs1.length = rs.length + 1 := pm.length_eq
      have z1 : es1.size = rs.length + 1 := by rw [ents_len ins, l1]
      have dist1 : (rs1.map Prod.snd).Nodup := (pm.map Prod.snd).nodup_iff.mpr (List.nodup_cons.mpr ⟨m, B.dist⟩)
      have sb : Heap.SameBut d s.heap (s.heap.update d (Obj.putSet es1 t2)) := Heap.SameBut.update ..
      have at1 := store_at (es' := es1) (t' := t2) at_ dat
      refine wpAny_bind (wpAny_storeSet_of at_ dat ?_ (by rw [z1, sizeLine_eq]; omega))
      generalize s.heap.update d (Obj.putSet es1 t2) = h1 at sb at1 ⊢
      have keys1 : ∀ r ∈ rs1, Ky P w h1 r.2 r.1 := fun r mr => by
        rcases List.mem_cons.mp (pm.mem_iff.mp mr) with e | mr
        · rw [e]
          exact key.stays at_ dat sb
        · exact (B.keys r mr).stays at_ dat sb
      have sz1 : t2.place.size = es1.size := by
        have := T2.sz
        rw [List.length_map, l1] at this
        rw [this, z1]
      by_cases full : t2.tooFull = true
      · have f5 : (rs.length + 1) * 5 ≥ t.mask * 3 := by
          have z := full
          unfold SetTable.tooFull at z
          rw [decide_eq_true_eq, e4, p9, List.length_map, e3, p4] at z
          exact z
        have four : t.mask = 7 ∧ rs.length = 4 := by
          rcases B.tab.mok with e | e | e
          · exact ⟨e, by omega⟩
          · omega
          · omega
        have gr : SetTable.grown (es.size + 1) = SetTable.grown 5 := by rw [ln, four.2]
        rw [gr]
        refine wp_if_pos (by simp [full]) (wpAny_bind ?_)
        refine grows (s := { s with heap := h1 }) at1 ⟨ex.1, ex.2.1, ex.2.2⟩ rfl ins sz1 T2.dm (by rw [z1, e3, p4]; omega) dist1 keys1 (by omega) led2 fun h2 rs2 es2 ep2 t3 sb2 B2 pm2 => ?_
        exact wpAny_pure (q true h2 rs2 es2 ep2 t3 (sb.trans sb2) B2 (fun z => absurd z m) fun _ => pm2.trans pm)
      · refine wp_if_neg (by simp [full]) (wpAny_pure (q true h1 rs1 es1 (ep + 1) t2 sb ⟨⟨_, at1, ⟨ex.1, ex.2.1, ex.2.2⟩, rfl⟩, ins, T2, dist1, keys1, ?_, led2⟩ (fun z => absurd z m) fun _ => pm))
        have z := full
        unfold SetTable.tooFull at z
        rw [decide_eq_true_eq, e4, p9, List.length_map] at z
        rw [l1]
        omega
    have lit : ∀ b : Bool, TabOk (if b = true then t1 else { t1 with plain := false }) ((rs.map fun r => hs1 P w r.2).take (SetTable.below t.place (way t.mask (hs1 P w k) N)) ++ hs1 P w k :: (rs.map fun r => hs1 P w r.2).drop (SetTable.below t.place (way t.mask (hs1 P w k) N))) := fun b => by
      cases b with
      | true => exact p3
      | false => exact ⟨p3.ris, p3.dm, p3.sz, p3.mok, p3.bd, p3.reach⟩
    by_cases pl : t1.plain = true
    · refine wp_if_pos pl (wpAny_bind (anyHash key fun b => ?_))
      refine rest _ ?_ ?_ ?_ ?_ ?_ (lit b) <;> cases b <;> rfl
    · refine wp_if_neg pl (wpAny_bind (wpAny_pure ?_))
      exact rest t1 rfl rfl rfl rfl rfl p3
end
end TM

set_option maxHeartbeats 4000000
namespace TM
open PySem PySem.Spec PyProof.Rows L2
/-- the set, without the tuples themselves -/
def Bag0 (P : Program) (w : World) (h : Heap) (d : Addr) (rs : List (Addr × List Key)) : Prop := ∃ (es : Array (Int × Value)) (ep : Nat) (t : SetTable), (∃ o, h.get? d = some o ∧ o.ExactSet ∧ o.data = .set es ep t) ∧ es.toList = rs.map (ent P w) ∧
  TabOk t (rs.map fun r => hs1 P w r.2) ∧ (rs.map Prod.snd).Nodup ∧ rs.length * 5 < t.mask * 3 ∧ (w.params.followText "set-order" = true ∨ t.led = true)
theorem Bag.bare {P : Program} {w : World} {h : Heap} {d : Addr} {rs : List (Addr × List Key)} {es : Array (Int × Value)} {ep : Nat} {t : SetTable} (B : Bag P w h d rs es ep t) : Bag0 P w h d rs := ⟨es, ep, t, B.here, B.ents, B.tab, B.dist, B.gap, B.led⟩
def BagO (P : Program) (w : World) (d : Addr) (rs : List (Addr × List Key)) : HO := .ext fun h => Bag0 P w h d rs
theorem bag_new {P : Program} {w : World} {H : Hp} {h : Heap} {d : Addr} {rs : List (Addr × List Key)} (B : Bag0 P w h d rs) : ObjOk P w H h d (BagO P w d rs) := by
  have ⟨_, _, _, ⟨o, at_, _⟩, _⟩ := B
  refine ⟨B, ⟨o, at_⟩, fun h1 h2 p k => ?_⟩
  have ⟨es, ep, t, ⟨u, au, ru⟩, more⟩ := p
  exact ⟨es, ep, t, ⟨u, k u au, ru⟩, more⟩
theorem bag_fresh {P : Program} {w : World} {h : Heap} {d : Addr} (at_ : h.get? d = some (Ca.eSet w)) : Bag0 P w h d [] :=
  ⟨#[], 0, _, ⟨_, at_, ⟨rfl, rfl, rfl⟩, rfl⟩, rfl, ⟨List.Pairwise.nil, rfl, rfl, .inl rfl, (fun x z => nomatch z), (fun i y j z => by simp at z)⟩, List.nodup_nil, by show 0 * 5 < 7 * 3; decide, by
    (show _ ∨ (!w.params.followText "set-order") = true); cases w.params.followText "set-order" <;> simp⟩
section
variable {X : Cx}
/-- set.add of a tuple -/
theorem add_key {pins : List (Addr × Obj)} {σ : L2.St} {H : Hp} {s : Shared} {E : Value → Shared → Prop} {D x : Addr} {k : List Key} {rs : List (Addr × List Key)} {u : Value} {Q : Value → Shared → Prop} (I : Inv X pins σ H s) (hu : X.A.units + 1 < cLine)
    (hD : H D = some (BagO X.prog X.w D rs)) (few : rs.length ≤ 16) (hx : H x = some (.tup (k.map kV))) (hr : ∀ r ∈ rs, H r.1 = some (.tup (r.2.map kV))) (ru : RelV (.ref x) u)
    (q : ∀ rs' s', (k ∈ rs.map Prod.snd → rs' = rs) → (k ∉ rs.map Prod.snd → rs'.Perm ((x, k) :: rs)) → Inv X pins σ (upd H D (BagO X.prog X.w D rs')) s' → Q .none s') : wpAny (model X.prog X.w) X.A (call (.builtin "set.add") [.ref D, u]) Q E s := by
  cases ru
  obtain ⟨es, ep, t, ⟨o, at_, ex, dat⟩, ents, tab, dist, gap, led⟩ := (show Bag0 X.prog X.w s.heap D rs from (I.hok D _ hD).1)
  have kx : Ky X.prog X.w s.heap k x := key_of I.hok hx
  have B : Bag X.prog X.w s.heap D rs es ep t := ⟨⟨o, at_, ex, dat⟩, ents, tab, dist, fun r m => key_of I.hok (hr r m), gap, led⟩
  have ty : s.TypeIs (.ref D) "set" := ⟨o, at_, ex.1⟩
  refine wpAny_call_entry F.slot_set_add ty F.entry_set_add ?_ (F.args_set_add_2 _ _)
  unfold Builtin.«set.add» Builtin.Frozenset.oneOther
  simp only [List.isEmpty_nil, bind_assoc]
  unfold Builtin.Frozenset.addrOf setAdd
  refine wpAny_bind (wpAny_pure ?_)
  try dsimp only
  refine wpAny_bind (wpAny_pure ?_)
  try dsimp only
  refine wpAny_bind (wpAny_holding (wpAny_bind (wpAny_pyHash_tuple hu kx ?_)))
  refine adds (s := { s with toks := s.toks + (k.length + 1) }) B kx hu few fun b h' rs' es' ep' t' sb B' c1 c2 => ?_
  show wpAny _ _ (ret Value.none) _ _ _
  refine wpAny_pure ⟨_, rfl, q rs' _ c1 c2 ?_⟩
  obtain ⟨o', at', _⟩ := B'.here
  exact I.write (e := D) (t' := s.toks + (k.length + 1)) (by rw [hD]; trivial) (.inl rfl) (fun b u hb e => (sb.2 b hb).trans e) ⟨o', at'⟩ (bag_new B'.bare)
/-- {elt for .. in .. if ..}, elt a tuple of ints and texts: D the new set -/
def tSc1 (P : Program) (w : World) (wi : TI) (g : TG) (tt : TT) (te : TE) (vs : List Nat) : TE := fun σ H Q => wi σ H fun J H1 => ∀ D, H1 D = none → ∃ W : Nat → Nat → Hp → Prop, (∃ m, W 0 m (upd H1 D (BagO P w D []))) ∧ ∀ i m H, W i m H →
  (J.stop i H ∧ Q (.ref D) H) ∨ (J.go i H ∧ ∃ Nx : Hp → Prop, (∀ H', Nx H' → ∃ m', m' < m ∧ W (i + 1) m' H') ∧
    ∀ x H', J.yld i H x H' → g x (wipe σ vs) H' fun σ2 H2 => wipe σ2 vs = wipe σ vs ∧ tt σ2 H2 fun b H3 =>
      if b = true then te σ2 H3 fun y H4 => ∃ (a : Addr) (k : List Key) (rs : List (Addr × List Key)), y = .ref a ∧ H4 a = some (.tup (k.map kV)) ∧ H4 D = some (BagO P w D rs) ∧ rs.length ≤ 16 ∧ (∀ r ∈ rs, H4 r.1 = some (.tup (r.2.map kV))) ∧
        ∀ rs', (k ∈ rs.map Prod.snd → rs' = rs) → (k ∉ rs.map Prod.snd → rs'.Perm ((a, k) :: rs)) → Nx (upd H4 D (BagO P w D rs'))
      else Nx H3)
theorem pe_sc1 {elt a0 b0 : Expr} {c0 : List Expr} {scope : Scope} {own : List (PySem.Str × Nat)} {pos : Pos} {wi : TI} {g : TG} {tt : TT} {te : TE} (hu : X.A.units + 1 < cLine)
    (hc : X.calm = true) (hN : X.N.Nodup) (hi : PI X a0 b0 wi) (ok : BlkOk X.N X.env.scope scope own)
    (hg : ∀ (s : Shared) (H : Hp) (C : Addr) (cl : List (PySem.Str × Addr)) (fq : List Addr), PG (X.blk s H scope (compEnvC scope cl C X.env) fq) a0 g) (ht : ∀ (s : Shared) (H : Hp) (C : Addr) (cl : List (PySem.Str × Addr)) (fq : List Addr), PTs (X.blk s H scope (compEnvC scope cl C X.env) fq) c0 tt)
    (he : ∀ (s : Shared) (H : Hp) (C : Addr) (cl : List (PySem.Str × Addr)) (fq : List Addr), PE (X.blk s H scope (compEnvC scope cl C X.env) fq) elt te) (f0 : ∀ x, foldedSetIterable b0 X.env x = pure x := by intro _; rfl) :
    PE X (.SetComp elt [⟨a0, b0, c0, 0⟩] scope pos) (tSc1 X.prog X.w wi g tt te (own.map (·.2))) := by
  refine ⟨fun pins s σ H Q I h => ?_⟩
  rw [PpSet.eval_SetComp]
  have free : ∀ y ∈ scope.names, y.2 = .free → ∃ c, X.env.cells.lookup y.1 = some c := fun y hy e =>
    (ok.free y hy e).elim (fun k => I.ok.has _ (.inl k)) (fun k => I.ok.has _ (.inr k))
  refine wpAny_comprehension_free (use := none) rfl f0 (closure_ok free) ok.kind (fun y hy e => by rw [ok.uniq y hy, e]) ?_
  refine thn (hi.run pins s σ H _ I h) fun xv s1 hx => thn hx fun itv s2 h2 => ?_
  obtain ⟨it, fp, tn, J, H2, rfl, I2, T, st2, fpo, q⟩ := h2
  refine PpSet.newSet_ok (newEnv_comp ?_)
  generalize hD : s2.heap.objs.size = D
  obtain ⟨W, ⟨m0, w0⟩, turn⟩ := q D (I2.hok.fresh (Nat.le_of_eq hD))
  generalize hs3 : ({ s2 with heap := s2.heap.push (Ca.eSet X.w) } : Shared) = s3
  have e3 : s3.heap = s2.heap.push (Ca.eSet X.w) := by rw [← hs3]
  have I3 : Inv X pins σ (upd H2 D (BagO X.prog X.w D [])) s3 := by
    subst hs3 hD
    exact I2.laid (t' := s2.toks) (fun b o e => Heap.get?_push_of_some _ e) (Nat.le_refl _) (bag_new (bag_fresh (Heap.get?_push_size _ rfl)))
  have low : ∀ b ∈ fp, b < s2.heap.objs.size := fun b hb =>
    let ⟨_, e, _⟩ := T.obj _ _ st2 b hb
    Heap.lt_size e
  have fpo3 : ∀ b ∈ fp, FpOk X pins (upd H2 D (BagO X.prog X.w D [])) b ∧ b < s3.heap.objs.size := fun b hb => by
    have lt := low b hb
    refine ⟨⟨?_, (fpo b hb).2⟩, by rw [e3, Heap.size_push]; exact Nat.lt_succ_of_lt lt⟩
    rw [upd_ne (by subst hD; exact Nat.ne_of_lt lt)]
    exact (fpo b hb).1
  have st3 : tn 0 s3.heap := T.keep _ _ _ st2 fun b _ o e => by rw [e3]; exact Heap.get?_push_of_some _ e
  have I4 := block_start I3 ok hN fpo3
  generalize hcl : cellsFrom (s3.heap.objs.size + 1) scope.names (cloFrom X.env.cells scope.names []) = cl at I4 ⊢
  have qg := hg s3 (upd H2 D (BagO X.prog X.w D [])) s3.heap.objs.size cl fp
  have qt := ht s3 (upd H2 D (BagO X.prog X.w D [])) s3.heap.objs.size cl fp
  have qe := he s3 (upd H2 D (BagO X.prog X.w D [])) s3.heap.objs.size cl fp
  have non3 : ∀ b ∈ fp, (upd H2 D (BagO X.prog X.w D [])) b = none := fun b hb => (fpo3 b hb).1.1
  show codeAny _ _ (.compStart (.SetComp elt [⟨a0, b0, c0, 0⟩] scope pos) 0 (.ref it) (.ref D) (compEnvC scope cl s3.heap.objs.size X.env)) (compPost (model X.prog X.w) X.A X.xe none _ (.ref D) s3.heap.objs.size)
    { s3 with heap := pushCells (s3.heap.push { cls := .type "dict", data := .dict #[] }) scope.names }
  generalize hce : compEnvC scope cl s3.heap.objs.size X.env = ce at I4 qg qt qe ⊢
  have loc : ce.locals = s3.heap.objs.size := by subst hce; rfl
  generalize hH3 : upd H2 D (BagO X.prog X.w D []) = H3 at I3 I4 qg qt qe w0 non3 fpo3
  generalize hs4 : ({ s3 with heap := pushCells (s3.heap.push { cls := .type "dict", data := .dict #[] }) scope.names } : Shared) = s4 at I4 ⊢
  have st4 : tn 0 s4.heap := T.keep _ _ _ st3 fun b _ o e => by
    subst hs4
    exact pushCells_keeps _ _ _ _ (Heap.get?_push_of_some _ e)
  let Y : Cx := X.blk s3 H3 scope ce fp
  have okFp : ∀ {σ' : L2.St} {H' : Hp} {s' : Shared}, Inv Y [] σ' H' s' → (∀ b ∈ fp, H' b = none) → ∀ b ∈ fp, FpOk Y [] H' b := fun {σ' H' s'} K hn b hb =>
    ⟨hn b hb, (K.ok.exf b hb).1, K.ok.exfs b hb, .inl hb, fun x c e => (K.ok.exf b hb).2 x c e,
      fun p hp => absurd (show p ∈ ([] : List (Addr × Obj)) ++ [] from hp) (by simp)⟩
  generalize hvs : own.map (·.2) = vs at turn I4
  have loop : codeAny (model X.prog X.w) X.A (.compLoop (.SetComp elt [⟨a0, b0, c0, 0⟩] scope pos) 0 (.ref it) (.ref D) ce)
      (compPost (model X.prog X.w) X.A X.xe none (EP X pins σ Q) (.ref D) s3.heap.objs.size) s4 := by
    refine PpSet.compLoopS_any (fun n s' => ∃ i H', Inv Y [] (wipe σ vs) H' s' ∧ tn i s'.heap ∧ (∀ b ∈ fp, H' b = none) ∧ W i n H') ?_ m0 ⟨0, H3, I4, st4, non3, w0⟩
    rintro n s5 ⟨i, H5, I5, st5, n5, w5⟩
    rcases turn i n H5 w5 with ⟨stop, fin⟩ | ⟨go, Nx, hNx, step⟩
    · refine thnF (T.done Y rfl rfl rfl hc i [] s5 _ H5 (fun _ _ => False) I5 (okFp I5 n5) st5 stop) fun r s6 ⟨hr, I6⟩ => ?_
      subst hr
      have I7 : Inv X pins σ H5 s6 := I3.call' (ch := fp) I6.os I6.base I6.hok I6.bare fun b hb =>
        ⟨(fpo3 b hb).1.2.2.2.1, (fpo3 b hb).1.2.1, (fpo3 b hb).1.2.2.2.2.1, (fpo3 b hb).1.2.2.2.2.2⟩
      have nC : H5 s3.heap.objs.size = none := by
        have z : H5 ce.locals = none := I6.free
        rwa [loc] at z
      obtain ⟨m, hm, _⟩ := I6.loc
      have hm : s6.heap.Ns ce.locals m := hm
      rw [loc] at hm
      obtain ⟨z0, z1, z2, z3, z4, z5⟩ := I3.fpOk (Nat.le_refl _) nC
      refine ⟨m, hm, fun h'' sb => ⟨.ref D, H5, I7.turned (t' := s6.toks) (fun b o hb e => ?_) z0 z1 z3 z4 z5, rfl, fin⟩⟩
      exact (sb.2 b hb).trans e
    · refine thnF (T.item Y rfl rfl rfl hc i [] s5 _ H5 (fun _ _ => False) I5 (okFp I5 n5) st5 go) fun r s6 ⟨u, hr, h6⟩ => ?_
      subst hr
      refine thnF h6 fun _ s7 ⟨x, H7, I7, r7, y7, st7, n7⟩ => ?_
      refine thnF (qg.run _ s7 _ H7 x u _ (I7.pinned (okFp I7 n7) (T.obj _ _ st7)) r7 (step x H7 y7)) fun _ s8 ⟨σ8, H8, I8, w8, q8⟩ => ?_
      refine thnF (qt.run _ s8 σ8 H8 _ I8 q8) fun b s9 ⟨H9, I9, q9⟩ => ?_
      have close : ∀ {s' : Shared} {H' : Hp}, Inv Y ([] ++ pinsAt fp s7.heap) σ8 H' s' → Nx H' →
          ∃ m, m < n ∧ ∃ i H', Inv Y [] (wipe σ vs) H' s' ∧ tn i s'.heap ∧ (∀ b ∈ fp, H' b = none) ∧ W i m H' := fun {s' H'} K nx => by
        obtain ⟨m', hm, w'⟩ := hNx H' nx
        have held : ∀ b ∈ fp, ∀ o, s7.heap.get? b = some o → s'.heap.get? b = some o ∧ H' b = none := fun b hb o e =>
          let z := K.pin (b, o) (List.mem_append_right _ (List.mem_append_right _ (mem_pinsAt hb e)))
          ⟨z.1, z.2.1⟩
        refine ⟨m', hm, i + 1, H', (K.unpinned (pins := [])).weak (by rw [← w8, wipe_length]) (fun j v e => ?_), T.keep _ _ _ st7 fun b hb o e => (held b hb o e).1, fun b hb => ?_, w'⟩
        · rw [← w8] at e
          exact (wipe_some e).1
        · obtain ⟨o, e, _⟩ := T.obj _ _ st7 b hb
          exact (held b hb o e).2
      cases b with
      | false =>
        simp only [Bool.false_eq_true, if_false] at q9 ⊢
        exact close I9 q9
      | true =>
        simp only [if_true] at q9 ⊢
        refine thnF (qe.run _ s9 σ8 H9 _ I9 q9) fun z s10 ⟨yv, H10, I10, r10, a, k, rs, ey, ha, d10, few, hrs, nx⟩ => ?_
        subst ey
        exact add_key (X := Y) I10 hu d10 few ha hrs r10 fun rs' s11 c1 c2 I11 => close I11 (nx rs' c1 c2)
  exact PpSet.codeAny_compStart_set loop (T.self X.A 0 _ _ _ st4 loop)
/-- len of it -/
def rLenBag (P : Program) (w : World) : List V → Hp → VK → Prop := fun xs H Q => ∃ (a : Addr) (rs : List (Addr × List Key)), xs = [.ref a] ∧ H a = some (BagO P w a rs) ∧ rs.length ≤ 1000 ∧ Q (.int (rs.length : Nat)) H
theorem cr_lenBag : CallR X (.builtin "len") (rLenBag X.prog X.w) := by
  intro pins s σ H xs us Q I r h
  obtain ⟨a, rs, rfl, ha, few, q⟩ := h
  cases r with
  | cons r rr =>
    cases rr
    cases r
    obtain ⟨es, ep, t, ⟨o, at_, ex, dat⟩, ents, tab, dist, gap, led⟩ := (show Bag0 X.prog X.w s.heap a rs from (I.hok a _ ha).1)
    have ln := ents_len ents
    have sz := tab.sz
    rw [List.length_map] at sz
    refine call_len_set at_ ex dat (fits_of (by omega) tab.dm (by omega)) (by omega) ⟨.int (rs.length : Nat), H, (I.tok _).tok _, ⟨_, by rw [ln]⟩, q⟩
end
end TM

set_option maxHeartbeats 4000000
namespace TM
open PySem PySem.Spec PyProof.Rows L2 Ca
def kD : Key → PyData
  | .inl i => .int i
  | .inr x => .str x
theorem key_rp {H : Hp} : ∀ {k : List Key} {xs : List V}, RpA H xs (k.map kD) → xs = k.map kV
  | [], _, .nil => rfl
  | .inl i :: k, _, .cons h r => by
    cases h
    rw [key_rp r]
    rfl
  | .inr x :: k, _, .cons h r => by
    cases h
    rw [key_rp r]
    rfl
open Classical in
/-- each key once -/
noncomputable def onceIn (acc : List (List Key)) (k : List Key) : List (List Key) := if k ∈ acc then acc else k :: acc
noncomputable def once (l : List (List Key)) : List (List Key) := l.foldl onceIn []
theorem once_snoc (l : List (List Key)) (k : List Key) : once (l ++ [k]) = onceIn (once l) k := by
  unfold once
  rw [List.foldl_append]
  rfl
theorem fold_mem : ∀ (l acc : List (List Key)) (k : List Key), k ∈ l.foldl onceIn acc ↔ k ∈ acc ∨ k ∈ l
  | [], acc, k => by simp
  | x :: l, acc, k => by
    rw [List.foldl_cons, fold_mem l, List.mem_cons]
    unfold onceIn
    split
    · rename_i h
      constructor
      · rintro (z | z)
        · exact .inl z
        · exact .inr (.inr z)
      · rintro (z | z | z)
        · exact .inl z
        · rw [z]
          exact .inl h
        · exact .inr z
    · rw [List.mem_cons]
      constructor
      · rintro ((z | z) | z)
        · exact .inr (.inl z)
        · exact .inl z
        · exact .inr (.inr z)
      · rintro (z | z | z)
        · exact .inl (.inr z)
        · exact .inl (.inl z)
        · exact .inr z
theorem once_mem {l : List (List Key)} {k : List Key} : k ∈ once l ↔ k ∈ l := by
  unfold once
  rw [fold_mem]
  simp
theorem once_len (l : List (List Key)) : (once l).length ≤ l.length ∧ ((once l).length = l.length ↔ l.Nodup) := by
  have : ∀ n, ∀ l : List (List Key), l.length = n → (once l).length ≤ l.length ∧ ((once l).length = l.length ↔ l.Nodup) := by
    intro n
    induction n with
    | zero =>
      intro l h
      have : l = [] := List.eq_nil_of_length_eq_zero h
      subst this
      exact ⟨Nat.le_refl _, by simp [once]⟩
    | succ n ih =>
      intro l h
      have hne : l ≠ [] := fun z => by rw [z] at h; cases h
      obtain ⟨m, k, rfl⟩ : ∃ m k, l = m ++ [k] := ⟨l.dropLast, l.getLast hne, (List.dropLast_concat_getLast hne).symm⟩
      have hm : m.length = n := by simpa using h
      obtain ⟨i1, i2⟩ := ih m hm
      rw [once_snoc]
      have nd : (m ++ [k]).Nodup ↔ m.Nodup ∧ k ∉ m := by
        rw [List.nodup_append]
        constructor
        · rintro ⟨a, _, c⟩
          exact ⟨a, fun z => c k z k (by simp) rfl⟩
        · rintro ⟨a, b⟩
          exact ⟨a, by simp, fun x hx y hy e => b (by rw [List.mem_singleton] at hy; rw [← hy, ← e]; exact hx)⟩
      unfold onceIn
      by_cases hk : k ∈ once m
      · rw [if_pos hk, List.length_append]
        simp only [List.length_cons, List.length_nil]
        refine ⟨by omega, ⟨fun z => by omega, fun z => absurd (once_mem.mp hk) (nd.mp z).2⟩⟩
      · rw [if_neg hk, List.length_append]
        simp only [List.length_cons, List.length_nil]
        refine ⟨by omega, ?_⟩
        rw [nd]
        have e1 : (once m).length + 1 = m.length + (0 + 1) ↔ (once m).length = m.length := by omega
        rw [e1, i2]
        exact ⟨fun z => ⟨z, fun y => hk (once_mem.mpr y)⟩, fun z => z.1⟩
  exact this l.length l rfl
section
variable {P : Program} {w : World} {σ : L2.St} {F : Hp} {wi : TI} {g : TG} {tt : TT} {te : TE} {vs : List Nat} {α : Type} {enc : α → PyData} {as : List α} {ev : α → List Key}
/-- len({elt for .. in ..}) -/
theorem e_lenSc (hi : ItP wi σ F (as.map enc)) (hz : as.length ≤ 17) (ht : ∀ a ∈ as, Turn g tt te σ vs F (enc a) true (.tuple ((ev a).map kD))) :
    EvD (tCB (rLenBag P w) (tCons (tSc1 P w wi g tt te vs) tNil)) σ F (.int ((once (as.map ev)).length : Nat)) := fun S H1 f s Q q => hi S H1 f s _ fun J H2 s2 it D hD => by
  have f2 := f.mono s2
  have sF := s.trans (offS_mono (S := S) s2)
  let Inv1 : Nat → Hp → Prop := fun i H' => Same H2 H' ∧ ∃ rs, H' D = some (BagO P w D rs) ∧ (rs.map Prod.snd).Perm (once ((as.take i).map ev)) ∧ ∀ r ∈ rs, H' r.1 = some (.tup (r.2.map kV))
  refine ⟨fun i m H' => m = as.length - i ∧ i ≤ as.length ∧ Inv1 i H', ⟨as.length, by simp, Nat.zero_le _, same_new hD, [], upd_same, List.Perm.refl _, fun r z => nomatch z⟩, ?_⟩
  rintro i m H' ⟨rfl, hi, s3, rs, hrs, pm, hk⟩
  have f3 : Fr S H' := f2.mono s3
  have jt := it S H' i f3 (offS_mono s3)
  rw [List.length_map] at jt
  by_cases hlt : i < as.length
  · obtain ⟨go, yl⟩ := jt.1 hlt
    refine .inr ⟨go, Inv1 (i + 1), fun H'' p' => ⟨as.length - (i + 1), by omega, rfl, hlt, p'⟩, fun x H'' y => ?_⟩
    have ha : as[i]? = some as[i] := List.getElem?_eq_getElem hlt
    obtain ⟨s5, d, hd, rx⟩ := yl x H'' y
    rw [List.getElem?_map, ha] at hd
    cases hd
    have f5 := f3.mono s5
    have e1 : as.take (i + 1) = as.take i ++ [as[i]] := take_more ha
    have sX := sF.trans (offS_mono (S := S) (s3.trans s5))
    refine ht as[i] (List.getElem_mem hlt) x (offS S H'') sX rx S H'' f5 (Same.refl _) _ fun σ2 ⟨ww, hb, he⟩ => ⟨ww, hb S H'' f5 (Same.refl _) _ fun H3 s6 => ?_⟩
    refine he rfl S H3 (f5.mono s6) (offS_mono s6) _ fun v H4 s7 r4 => ?_
    obtain ⟨a, xs, rfl, h4, r5⟩ := rp_tup r4
    rw [key_rp r5] at h4
    have s37 := s5.trans (s6.trans s7)
    have hrs4 := s37 _ _ hrs
    have lr : rs.length ≤ 16 := by
      have a1 := pm.length_eq
      have a2 := (once_len ((as.take i).map ev)).1
      rw [List.length_map] at a1
      rw [List.length_map, List.length_take] at a2
      omega
    refine ⟨a, ev as[i], rs, rfl, h4, hrs4, lr, fun r hr => s37 _ _ (hk r hr), fun rs' c1 c2 => ⟨same_mut (s3.trans s37) hD, rs', upd_same, ?_, fun r hr => ?_⟩⟩
    · rw [e1, List.map_append, List.map_cons, List.map_nil, once_snoc]
      unfold onceIn
      by_cases hm : ev as[i] ∈ rs.map Prod.snd
      · rw [c1 hm, if_pos (pm.mem_iff.mp hm)]
        exact pm
      · rw [if_neg fun z => hm (pm.mem_iff.mpr z)]
        exact ((c2 hm).map Prod.snd).trans (pm.cons _)
    · have nD : ∀ {b : Addr} {ys : List V}, H4 b = some (.tup ys) → b ≠ D := fun e z => by
        rw [z, hrs4] at e
        cases e
      by_cases hm : ev as[i] ∈ rs.map Prod.snd
      · rw [c1 hm] at hr
        have e := s37 _ _ (hk r hr)
        rw [upd_ne (nD e)]
        exact e
      · rcases List.mem_cons.mp ((c2 hm).mem_iff.mp hr) with z | z
        · rw [z, upd_ne (nD h4)]
          exact h4
        · have e := s37 _ _ (hk r z)
          rw [upd_ne (nD e)]
          exact e
  · have e : i = as.length := by omega
    subst e
    rw [List.take_length] at pm
    have l1 := pm.length_eq
    rw [List.length_map] at l1
    have l2 := (once_len (as.map ev)).1
    rw [List.length_map] at l2
    refine .inl ⟨jt.2 (Nat.le_refl _), (⟨D, rs, rfl, hrs, by omega, ?_⟩ : rLenBag P w [.ref D] H' Q)⟩
    rw [l1]
    exact q _ H' (s2.trans s3) (.int _)
end
end TM


set_option maxHeartbeats 4000000
namespace Q
open PySem PySem.Spec PyProof.Rows L2 Ca
/-! ### rows of tables: is_key, is_row, are_rows -/
structure Ro where
  k : PySem.Str
  l : Int
  r : Int
  n : Int
def roD (a : Ro) : PyData := .tuple [.str a.k, .int a.l, .int a.r, .int a.n]
def roK (a : Ro) : List Key := [.inr a.k, .inl a.l, .inl a.r]
structure GoodR (a : Ro) : Prop where
  k : kindOk a.k = true
  l0 : 0 ≤ a.l
  l9 : a.l ≤ 99
  r0 : 0 ≤ a.r
  r9 : a.r ≤ 99
  n1 : 1 ≤ a.n
  n9 : a.n ≤ 10000
def isRow (d : PyData) : Bool := match d with
  | .tuple [k, l, r, n] => isTri (.tuple [k, l, r]) 99 && isNum n 1 10000
  | _ => false
theorem isRow_not {d : PyData} (h : isTup d = false) : isRow d = false := by
  cases d <;> first | rfl | cases h
theorem isRow_len {ds : List PyData} (h : ds.length ≠ 4) : isRow (.tuple ds) = false := by
  match ds, h with
  | [], _ => rfl
  | [a], _ => rfl
  | [a, b], _ => rfl
  | [a, b, c], _ => rfl
  | [a, b, c, d], h => exact absurd rfl h
  | a :: b :: c :: d :: e :: r, _ => rfl
theorem isNum_is {d : PyData} {lo hi : Int} (h : isNum d lo hi = true) : ∃ i, d = .int i ∧ lo ≤ i ∧ i ≤ hi := by
  cases d with
  | int i =>
    unfold isNum at h
    simp only [Bool.and_eq_true, decide_eq_true_eq] at h
    exact ⟨i, rfl, h.1, h.2⟩
  | _ => cases h
theorem isRow_is {d : PyData} (h : isRow d = true) : ∃ a, d = roD a ∧ GoodR a := by
  cases d with
  | tuple ds =>
    match ds, h with
    | [k, l, r, n], h =>
      unfold isRow at h
      simp only [Bool.and_eq_true] at h
      obtain ⟨h1, h2⟩ := h
      cases k with
      | str k =>
        unfold isTri at h1
        simp only [Bool.and_eq_true] at h1
        obtain ⟨k1, l1, r1⟩ := h1
        obtain ⟨i, rfl, a1, a2⟩ := isNum_is l1
        obtain ⟨j, rfl, b1, b2⟩ := isNum_is r1
        obtain ⟨m, rfl, c1, c2⟩ := isNum_is h2
        exact ⟨⟨k, i, j, m⟩, rfl, ⟨k1, a1, a2, b1, b2, c1, c2⟩⟩
      | _ => cases h1
  | _ => cases h
theorem isRow_of {a : Ro} (g : GoodR a) : isRow (roD a) = true := by
  simp [isRow, roD, isTri, isNum, g.k, g.l0, g.l9, g.r0, g.r9, g.n1, g.n9]
/-- the rows of one table -/
def AreR (ds : List PyData) : Prop := ds.length ≤ 12 ∧ ∃ rs : List Ro, ds = rs.map roD ∧ (∀ a ∈ rs, GoodR a) ∧ (rs.map roK).Nodup
theorem rows_of {ds : List PyData} (h : ds.all isRow = true) : ∃ rs : List Ro, ds = rs.map roD ∧ ∀ a ∈ rs, GoodR a := by
  induction ds with
  | nil => exact ⟨[], rfl, fun a z => nomatch z⟩
  | cons d ds ih =>
    rw [List.all_cons, Bool.and_eq_true] at h
    obtain ⟨a, rfl, g⟩ := isRow_is h.1
    obtain ⟨rs, rfl, gs⟩ := ih h.2
    exact ⟨a :: rs, rfl, fun b hb => by
      rcases List.mem_cons.mp hb with e | hb
      · rw [e]; exact g
      · exact gs b hb⟩
abbrev s_is_key : Stmt := top 22
abbrev s_is_row : Stmt := top 23
abbrev s_are_rows : Stmt := top 24
theorem sc_key : FnScope ["thing"] ["thing"] (defScope s_is_key) := ⟨rfl, rfl, rfl, by decide +kernel, rfl, by decide +kernel, by decide +kernel⟩
theorem sc_row : FnScope ["thing"] ["thing"] (defScope s_is_row) := ⟨rfl, rfl, rfl, by decide +kernel, rfl, by decide +kernel, by decide +kernel⟩
theorem sc_rows : FnScope ["things", "thing", "row"] ["things"] (defScope s_are_rows) := ⟨rfl, rfl, rfl, by decide +kernel, rfl, by decide +kernel, by decide +kernel⟩
def RNum : List PyData → PyData → Prop := fun ds d => ∃ x lo hi, ds = [x, .int lo, .int hi] ∧ d = .bool (isNum x lo hi)
def RTri : List PyData → PyData → Prop := fun ds d => ∃ x m, ds = [x, .int m] ∧ d = .bool (isTri x m)
def RKey : List PyData → PyData → Prop := fun ds d => ∃ x, ds = [x] ∧ d = .bool (isTri x 99)
def RRow : List PyData → PyData → Prop := fun ds d => ∃ x, ds = [x] ∧ d = .bool (isRow x)
def RRowsT : List PyData → PyData → Prop := fun ds d => ∃ es b, ds = [.tuple es] ∧ es.length ≤ 1000 ∧ d = .bool b ∧ (b = true ↔ AreR es)
def RRowsL : List PyData → PyData → Prop := fun ds d => ∃ es b, ds = [.list es] ∧ es.length ≤ 1000 ∧ d = .bool b ∧ (b = true ↔ AreR es)
theorem num_imp : ∀ vs H Q E, spR RNum vs H Q E → spNum vs H Q E := by
  rintro vs H Q E ⟨S, ds, d, f, r, ⟨x, lo, hi, rfl, rfl⟩, q⟩
  obtain ⟨v, v1, v2, rfl, r1, r2, r3⟩ := rpa3 r
  cases r2
  cases r3
  exact ⟨v, x, lo, hi, rfl, r1.mono offS_same, q _ H (Same.refl _) (.bl _)⟩
theorem tri_imp : ∀ vs H Q E, spR RTri vs H Q E → spTri vs H Q E := by
  rintro vs H Q E ⟨S, ds, d, f, r, ⟨x, m, rfl, rfl⟩, q⟩
  obtain ⟨v, v1, rfl, r1, r2⟩ := rpa2 r
  cases r2
  exact ⟨v, x, m, rfl, r1.mono offS_same, q _ H (Same.refl _) (.bl _)⟩
section
variable {K : PySem.W.Frag} {σ : L2.St} {F : Hp} {ta : TE} {d : PyData}
theorem e_isiT (h : EvD ta σ F d) : EvD (tCB (rIsi K) (tCons ta (tCons (tC (.ty "tuple")) tNil))) σ F (.bool (isTup d)) := fun S H1 f s Q q => h S H1 f s _ fun v H2 s2 r =>
  ⟨_, _, _, _, _, rfl, .ty _, (r.mono offS_same).ty, kTup d, q _ H2 s2 (.bl _)⟩
end
section
variable {P : Program} {w : World} {K : PySem.W.Frag} {mg : PySem.Str → Option Value} {base : Heap}
theorem e_glI {σ : L2.St} {F : Hp} {i : Int} : EvD (tC (.int i)) σ F (.int i) := e_int
theorem ok_key {f : Addr} {fd : FuncData} (F : FnP K "is_key" s_is_key f fd) (gV : ∃ t, mg "MOST_VALUE" = some (.int 99 t)) (D1 : Fd P w K mg base "is_triple" 2 ["thing", "most"] (spR RTri)) : FnOk P w K mg base CX0 3 f fd ["thing"] (spR RKey) := by
  obtain ⟨f1, fd1, G1, b1, k1, m1⟩ := D1.ex
  obtain ⟨t, gV⟩ := gV
  refine F.ok sc_key (spR_len (by rintro _ _ ⟨x, rfl, _⟩; rfl)) (fun cdv A outer s H vs Q E hr h => ?_)
  obtain ⟨S, ds, d, fr, rA, ⟨x, rfl, rfl⟩, q⟩ := h
  obtain ⟨v0, rfl, r0⟩ := rpa1 rA
  refine ⟨_, PSs.nox (pss_one (ps_ret (pe_call G1 (hr.mono (by decide)) rfl m1 k1 b1 .nil pass0 (pa_cons (pv 0) (pa_cons (pe_glob (v := .int 99) rfl gV ⟨t, rfl⟩) pa_nil))))), ?_⟩
  exact go_ret (P := fun H v => Rp H v (.bool (isTri x 99))) fr (e_call (a_cons (e_var rfl r0) (a_cons e_glI a_nil)) ⟨x, 99, rfl, rfl⟩) q
theorem ok_row {f : Addr} {fd : FuncData} (F : FnP K "is_row" s_is_row f fd) (T : Tx K mg) (gO : ∃ t, mg "MOST_OFTEN" = some (.int 10000 t)) (D1 : Fd P w K mg base "is_key" 3 ["thing"] (spR RKey)) (D2 : Fd P w K mg base "is_number" 1 ["thing", "least", "most"] (spR RNum)) :
    FnOk P w K mg base CX0 4 f fd ["thing"] (spR RRow) := by
  obtain ⟨f1, fd1, G1, b1, k1, m1⟩ := D1.ex
  obtain ⟨f2, fd2, G2, b2, k2, m2⟩ := D2.ex
  obtain ⟨t, gO⟩ := gO
  refine F.ok sc_row (spR_len (by rintro _ _ ⟨x, rfl, _⟩; rfl)) (fun cdv A outer s H vs Q E hr h => ?_)
  obtain ⟨S, ds, d, fr, rA, ⟨x, rfl, rfl⟩, q⟩ := h
  obtain ⟨v0, rfl, r0⟩ := rpa1 rA
  refine ⟨_, PSs.nox (pss_cons (ps_if (PW.pt (pw_or (pt_not (pt_val (pe_callB (call_isi : CallR _ _ (rIsi K)) (by rfl) T.isi bIsi (pa_cons (pv 0) (pa_cons (pe_bltn (v := .ty "tuple") (by rfl) T.tup bTup rfl) pa_nil)))))
      (pw_or1 (pt_cmpR op_ne (pe_callB (call_lenQ : CallR _ _ (rLenQ K)) (by rfl) T.len bLen (pa_cons (pv 0) pa_nil)) pe_int (nomark _))))) (pss_one (ps_ret pe_bl)) pss_nil)
    (pss_one (ps_ret (pe_and (pe_call G1 (hr.mono (by decide)) rfl m1 k1 b1 .nil pass0 (pa_cons (pe_slice (sl_tupA : SlR _ (rSlA K)) (pv 0) po_none (po_some pe_int)) pa_nil))
      (pe_one (pe_call G2 (hr.mono (by decide)) rfl m2 k2 b2 .nil pass0 (pa_cons (pe_ix (ix_tup : IxR _ (rIxT K)) (pv 0) pe_int (fun _ _ => rfl)) (pa_cons pe_int (pa_cons (pe_glob (v := .int 10000) rfl gO ⟨t, rfl⟩) pa_nil))))))))), ?_⟩
  have no : ∀ {H' : Hp}, Same H H' → Fr S H' → isRow x = false → tRet (tC (.bl false)) { nx := fun _ H' => Q .non H', rt := Q } (start ["thing"] [v0]) H' := fun s1 f1 e => q _ _ s1 (by rw [e]; exact .bl _)
  cases hT : isTup x with
  | false =>
    refine go_ifS fr (b := true) (by
      have := b_or (b := true) (b_not (b_val (e_isiT (K := K) (e_var (σ := start ["thing"] [v0]) (i := 0) rfl r0)))) (tu := tTest (tOp rNe (tCB (rLenQ K) (tCons (tVar 0) tNil)) (tC (.int 4)))) fun z => by rw [hT] at z; cases z
      rw [hT] at this
      exact this) (fun _ H1 s1 f1 => no s1 f1 (isRow_not hT)) fun z => by cases z
  | true =>
    cases x with
    | tuple es =>
      refine go_ifS fr (b := !decide ((es.length : Int) = 4)) (b_or (b_not (b_val (e_isiT (e_var rfl r0)))) fun _ => b_test (e_neI (e_lenT (e_var rfl r0)) e_int)) (fun z H1 s1 f1 => no s1 f1 (isRow_len fun e => by rw [e] at z; cases z)) fun z H1 s1 fr1 => ?_
      have l4 : es.length = 4 := by
        simp only [Bool.not_eq_false', decide_eq_true_eq] at z
        omega
      have r1 := r0.mono (offS_mono (S := S) s1)
      match es, l4 with
      | [k, l, r, n], _ =>
        exact go_ret (P := fun H v => Rp H v (.bool (isRow (.tuple [k, l, r, n])))) fr1 (e_and (e_call (a_cons (e_slT (e_var rfl r1) o_none (o_some e_int)) a_nil) ⟨_, rfl, rfl⟩) fun _ => e_call (a_cons (e_ixT (e_var rfl r1) e_int rfl rfl) (a_cons e_int (a_cons e_glI a_nil))) ⟨n, 1, 10000, rfl, rfl⟩) fun v H2 s2 r2 => q v H2 (s1.trans s2) r2
    | _ => cases hT
end
end Q

set_option maxHeartbeats 1000000
namespace Ca
open PySem PySem.Spec PyProof.Rows L2
/-! x in y, x not in y: y a list or a tuple of data -/
def rMem (K : PySem.W.Frag) (neg : Bool) : R2 := fun x y H Q => ∃ d ds, Dp K H x d ∧ (Dp K H y (.list ds) ∨ Dp K H y (.tuple ds)) ∧ SeqAt.shaped d = true ∧ SeqAt.shaped (.list ds) = true ∧ Q (.bl ((ds.any fun z => PyData.eqv z d) != neg)) H
theorem op_mem {X : Cx} (hu : X.A.units + 65 < cLine) : OpR X (compareOp .In) (rMem X.K false) := fun _ _ _ H x y v u _ inv rx ry ⟨e, es, he, hes, shE, shS, go⟩ => by
  obtain ⟨_, readE⟩ := Dp.reads inv e x v he rx
  have layE := SeqAt.canLay_of_shaped shE
  have layS := SeqAt.canLay_of_shaped shS
  rw [Bool.bne_false] at go
  cases hes with
  | inl hes =>
    obtain ⟨_, readS⟩ := Dp.reads inv (.list es) y u hes ry
    exact SeqAt.in_list_reads readS readE layS layE (room_in_shaped shE hu) ⟨.bl _, H, inv, rfl, go⟩
  | inr hes =>
    obtain ⟨_, readS⟩ := Dp.reads inv (.tuple es) y u hes ry
    exact SeqAt.in_tuple_reads readS readE layS layE (room_in_shaped shE hu) ⟨.bl _, H, inv, rfl, go⟩
theorem op_nmem {X : Cx} (hu : X.A.units + 65 < cLine) : OpR X (compareOp .NotIn) (rMem X.K true) := fun _ _ _ H x y v u _ inv rx ry ⟨e, es, he, hes, shE, shS, go⟩ => by
  obtain ⟨_, readE⟩ := Dp.reads inv e x v he rx
  have layE := SeqAt.canLay_of_shaped shE
  have layS := SeqAt.canLay_of_shaped shS
  rw [Bool.bne_true] at go
  cases hes with
  | inl hes =>
    obtain ⟨_, readS⟩ := Dp.reads inv (.list es) y u hes ry
    exact SeqAt.notIn_list_reads readS readE layS layE (room_in_shaped shE hu) ⟨.bl _, H, inv, rfl, go⟩
  | inr hes =>
    obtain ⟨_, readS⟩ := Dp.reads inv (.tuple es) y u hes ry
    exact SeqAt.notIn_tuple_reads readS readE layS layE (room_in_shaped shE hu) ⟨.bl _, H, inv, rfl, go⟩
section
variable {K : PySem.W.Frag} {σ : L2.St} {F : Hp} {ta tb : TE} {d : PyData} {ds : List PyData} {neg : Bool}
theorem e_memL (ha : EvD ta σ F d) (hb : EvD tb σ F (.list ds)) (h1 : eqOk d = true) (h2 : eqOk (.list ds) = true) : EvD (tOp (rMem K neg) ta tb) σ F (.bool ((ds.any fun z => PyData.eqv z d) != neg)) := e_op ha hb fun S H x y f rx ry Q q => by
  unfold eqOk at h1 h2
  rw [Bool.and_eq_true] at h1 h2
  exact ⟨d, ds, Rp.dp h1.1 (rx.mono offS_same), .inl (Rp.dp h2.1 (ry.mono offS_same)), h1.2, h2.2, q _ H (Same.refl _) (.bl _)⟩
theorem e_memT (ha : EvD ta σ F d) (hb : EvD tb σ F (.tuple ds)) (h1 : eqOk d = true) (h2 : eqOk (.list ds) = true) : EvD (tOp (rMem K neg) ta tb) σ F (.bool ((ds.any fun z => PyData.eqv z d) != neg)) := e_op ha hb fun S H x y f rx ry Q q => by
  unfold eqOk at h1 h2
  rw [Bool.and_eq_true] at h1 h2
  exact ⟨d, ds, Rp.dp h1.1 (rx.mono offS_same), .inr (Rp.dp (by simpa [nd] using h2.1) (ry.mono offS_same)), h1.2, h2.2, q _ H (Same.refl _) (.bl _)⟩
end
end Ca

set_option maxHeartbeats 1000000
namespace Ca
open PySem PySem.Spec PyProof.Rows L2
/-! tuples of ints that are read: known whole or not -/
def TupI (ns : List Int) (F : Hp) (v : V) : Prop := ∃ a, v = .ref a ∧ Rd F a (.tup (ns.map V.int))
def FzI (ns : List Int) (F : Hp) (v : V) : Prop := ∃ a, v = .ref a ∧ FzT F a (ns.map V.int)
theorem Rd.mono {F F' : Hp} {a : Addr} {u : HO} (s : Same F F') (h : Rd F a u) : Rd F' a u := by
  rcases h with h | ⟨o, h⟩
  · exact .inl (s _ _ h)
  · exact .inr ⟨o, s _ _ h⟩
theorem TupI.mono {ns : List Int} {F F' : Hp} {v : V} (s : Same F F') (h : TupI ns F v) : TupI ns F' v :=
  let ⟨a, e, h⟩ := h
  ⟨a, e, Rd.mono s h⟩
theorem FzI.mono {ns : List Int} {F F' : Hp} {v : V} (s : Same F F') (h : FzI ns F v) : FzI ns F' v :=
  let ⟨a, e, h⟩ := h
  ⟨a, e, h.mono s⟩
theorem FzI.ti {ns : List Int} {F : Hp} {v : V} (h : FzI ns F v) : TupI ns F v :=
  let ⟨a, e, h⟩ := h
  ⟨a, e, h.rd⟩
theorem ti_rp {ns : List Int} {F : Hp} {v : V} (h : Rp F v (.tuple (ns.map .int))) : TupI ns F v := by
  cases h with
  | @tup a xs _ h1 r1 =>
    rw [ints_rp r1] at h1
    exact ⟨a, rfl, .inl h1⟩
theorem TupI.sq {K : PySem.W.Frag} {ns : List Int} {a : Addr} {F : Hp} (h : Rd F a (.tup (ns.map V.int))) : SqT K F a (ns.map V.int) := .inl h
theorem ints_is : ∀ {ns : List Int} {us : List Value}, Vals (ns.map V.int) us → IntsAre us ns
  | [], _, h => by
    cases h
    exact .nil
  | n :: ns, _, h => by
    cases h with
    | cons h1 h2 =>
      obtain ⟨t, rfl⟩ := h1
      exact .cons n t (ints_is h2)
/-- t.index(i), t known whole -/
def tTixF (to te : TE) : TE := fun σ H Q => to σ H fun x H1 => ∃ (p : Addr) (ns : List Int), x = .ref p ∧ FzT H1 p (ns.map V.int) ∧ te σ H1 fun y H2 => ∃ z : Int, y = .int z ∧ Rd H2 p (.tup (ns.map V.int)) ∧ z ∈ ns ∧ Q (.int ((ns.idxOf z : Nat) : Int)) H2
section
variable {X : Cx} {o e : Expr} {to te : TE} {apos cpos : Pos}
theorem pe_tixF (ho : PE X o to) (he : PE X e te) (hbase : attributeBase o "index" X.env (eval o X.env) = eval o X.env := by rfl)
    (hfew : ((backTo cpos (starEach [e] X.env)).all (fun x => !x.1) && (backToKw cpos (keywordEach [] X.env)).all (fun x => x.1.isSome)
      && decide (([e] : List Expr).length + ([] : List Keyword).length + (if ([] : List Keyword).isEmpty then 0 else 1) < 30)) = true := by rfl)
    (hline : (apos.endLine == cpos.line) = true := by rfl) (hs : starEach [e] X.env = (false, eval e X.env) :: starEach [] X.env := by rfl) (hplain : (backTo cpos (starEach [] X.env)).any (·.1) = false := by rfl) :
    PE X (.Call (.Attribute o "index" apos) [e] [] cpos) (tTixF to te) := by
  refine ⟨fun pins s σ H Q I h => ?_⟩
  refine wpAny_Call_method_late hbase hfew hline rfl (thn (ho.run pins s σ H _ I h) fun v s1 ⟨x, H1, I1, r1, p, ns, ex, hz, q1⟩ => ?_)
  subst ex
  cases (show v = Value.ref p from r1)
  obtain ⟨ob, hb, hcl, hdi⟩ := hz
  obtain ⟨he1, _⟩ := (show ObjOk X.prog X.w H1 s1.heap p (.frz ob (.tup (ns.map V.int))) from I1.hok p _ hb)
  refine ⟨"tuple", "tuple.index", PySem.F.plainAttrs_tuple, PySem.F.slot_tuple_index, PySem.F.type_tuple_index, ⟨ob, he1, hcl⟩, fun a e => ?_, ?_⟩
  · cases e
    exact ⟨ob, he1, hdi⟩
  have hA := (pa_cons he pa_nil hs).run cpos pins s1 σ H1 (fun ys H2 => ∃ z : Int, ys = [.int z] ∧ Rd H2 p (.tup (ns.map V.int)) ∧ z ∈ ns ∧ Q (.int ((ns.idxOf z : Nat) : Int)) H2) I1 ?_
  · rw [hs] at hA ⊢
    have plain : (false || (backTo cpos (starEach [] X.env)).any (·.1)) = false := by
      rw [hplain]
      rfl
    refine Calls.callWith_builtin plain (Calls.evalArgs_plain ?_)
    refine thn hA fun us s2 ⟨vs, H2, I2, r2, z, e2, rd, hm, q2⟩ => ?_
    subst e2
    obtain ⟨u, rfl, ru⟩ := r2.one
    obtain ⟨t, rfl⟩ := ru
    obtain ⟨its, r, pl, _⟩ := I2.tuple (.inl rd)
    exact SeqAt.tuple_index_ints (vs := its) pl (ints_is r) hm ⟨.int ((ns.idxOf z : Nat) : Int), H2, I2.tok _, ⟨s2.toks, rfl⟩, q2⟩
  · show te σ H1 fun y H2 => ∃ z : Int, [y] = [V.int z] ∧ Rd H2 p (.tup (ns.map V.int)) ∧ z ∈ ns ∧ Q (.int ((ns.idxOf z : Nat) : Int)) H2
    have e : (fun (y : V) (H2 : Hp) => ∃ z : Int, [y] = [V.int z] ∧ Rd H2 p (.tup (ns.map V.int)) ∧ z ∈ ns ∧ Q (.int ((ns.idxOf z : Nat) : Int)) H2) =
        fun y H2 => ∃ z : Int, y = V.int z ∧ Rd H2 p (.tup (ns.map V.int)) ∧ z ∈ ns ∧ Q (.int ((ns.idxOf z : Nat) : Int)) H2 := by
      funext y H2
      simp
    rw [e]
    exact q1
end
section
variable {K : PySem.W.Frag} {σ : L2.St} {F : Hp} {to te ta tl : TE} {ns : List Int}
theorem e_tixF {x : Int} (ha : EvP to σ F (FzI ns)) (hb : EvD te σ F (.int x)) (hx : x ∈ ns) : EvD (tTixF to te) σ F (.int ((ns.idxOf x : Nat) : Int)) := fun S H1 f s Q q =>
  ha S H1 f s _ fun v H2 s2 ⟨a, e, h1⟩ => by
    subst e
    have h2 := h1.mono (offS_same (S := S) (H := H2))
    refine ⟨a, ns, rfl, h2, hb S H2 (f.mono s2) (s.trans (offS_mono s2)) _ fun w H3 s3 r3 => ?_⟩
    cases r3
    exact ⟨x, rfl, (h2.mono s3).rd, hx, q _ H3 (s2.trans s3) (.int _)⟩
theorem e_lenTI (h : EvP ta σ F (TupI ns)) : EvD (tCB (rLenQ K) (tCons ta tNil)) σ F (.int ns.length) := fun S H1 f s Q q =>
  h S H1 f s _ fun v H2 s2 ⟨a, e, h1⟩ => by
    subst e
    have z : ((ns.map V.int).length : Int) = ns.length := by rw [List.length_map]
    exact ⟨a, _, rfl, .inr (.inl (Rd.mono offS_same h1)), by rw [z]; exact q _ H2 s2 (.int _)⟩
theorem e_isiTI (h : EvP ta σ F (TupI ns)) : EvD (tCB (rIsi K) (tCons ta (tCons (tC (.ty "tuple")) tNil))) σ F (.bool true) := fun S H1 f s Q q =>
  h S H1 f s _ fun v H2 s2 ⟨a, e, h1⟩ => by
    subst e
    have h2 : Rd H2 a (.tup (ns.map V.int)) := Rd.mono offS_same h1
    refine ⟨_, _, .type "tuple", _, _, rfl, .ty _, ?_, _root_.Q.kTup (PyData.tuple []), q _ H2 s2 (.bl _)⟩
    rcases h2 with h2 | ⟨o, h2⟩
    · exact .base (.tup h2)
    · exact .fTuple h2
theorem rpa_ints {F : Hp} : ∀ ns : List Int, RpA F (ns.map V.int) (ns.map PyData.int)
  | [] => .nil
  | n :: ns => .cons (.int n) (rpa_ints ns)
theorem ti_dp {F : Hp} {v : V} (h : TupI ns F v) : Dp K F v (.tuple (ns.map .int)) := by
  obtain ⟨a, rfl, h⟩ := h
  refine .tup (.inl h) ?_
  clear h
  induction ns with
  | nil => exact .nil
  | cons n ns ih => exact .cons (.int _) ih
theorem e_memTI {tb : TE} {ds : List PyData} (ha : EvP ta σ F (TupI ns)) (hb : EvD tb σ F (.list ds)) (h1 : eqOk (.tuple (ns.map .int)) = true) (h2 : eqOk (.list ds) = true) :
    EvD (tOp (rMem K false) ta tb) σ F (.bool (ds.any fun z => PyData.eqv z (.tuple (ns.map .int)))) := fun S H1 f s Q q =>
  ha S H1 f s _ fun v H2 s2 p2 => hb S H2 (f.mono s2) (s.trans (offS_mono s2)) _ fun w H3 s3 r3 => by
    unfold eqOk at h1 h2
    rw [Bool.and_eq_true] at h1 h2
    have p3 : TupI ns H3 v := (p2.mono offS_same).mono s3
    exact ⟨_, ds, ti_dp p3, .inl (Rp.dp h2.1 (r3.mono offS_same)), h1.2, h2.2, by rw [Bool.bne_false]; exact q _ H3 (s2.trans s3) (.bl _)⟩
theorem e_lcTI {b : Int → Bool} {ev : Int → PyData} {g : TG} {tt : TT} {vs : List Nat} (hl : EvP tl σ F (TupI ns)) (hz : ns.length ≤ 90000) (ht : ∀ n ∈ ns, Turn g tt te σ vs F (.int n) (b n) (ev n)) :
    EvD (tLc (iTup K tl) g tt te vs) σ F (.list ((ns.filter b).map ev)) := fun S H1 f s Q q => hl S H1 f s _ fun v H2 s2 ⟨a, e, h1⟩ => by
  subst e
  have h2 : Rd H2 a (.tup (ns.map V.int)) := Rd.mono offS_same h1
  have r1 : RpA (offS S H2) (ns.map V.int) (ns.map PyData.int) := rpa_ints ns
  refine ⟨a, rfl, ⟨_, .inl h2⟩, fun D hD => ?_⟩
  have f2 := f.mono s2
  have sF := s.trans (offS_mono (S := S) s2)
  refine lc_tup (LInv S H2 D ns b ev) ⟨same_new hD, [], upd_same, .nil⟩ (fun i H' _ p => .inl (Rd.mono p.1 h2)) (fun i x H' hx inv => ?_) fun H' inv => q _ _ (s2.trans inv.1) (l_fin f2 hD (by rw [List.length_map]) inv)
  obtain ⟨t, ht1, rx⟩ := l_get (enc := PyData.int) r1 hx
  exact l_turn (enc := PyData.int) f2 sF hD hz ht1 rx (ht t (List.mem_of_getElem? ht1)) inv
end
end Ca

set_option maxHeartbeats 4000000
namespace Q
open PySem PySem.Spec PyProof.Rows L2 Ca TQ
abbrev tD (l : List Int) : PyData := .tuple (l.map .int)
theorem ints_rpT {H : Hp} : ∀ ns : List Int, RpA H (ns.map V.int) (ns.map PyData.int)
  | [] => .nil
  | n :: ns => .cons (.int n) (ints_rpT ns)
theorem rpT_ints {H : Hp} : ∀ {ns : List Int} {xs : List V}, RpA H xs (ns.map PyData.int) → xs = ns.map V.int
  | [], _, .nil => rfl
  | n :: ns, _, .cons (.int _) r => by
    rw [rpT_ints r]
    rfl
/-! ### sorted({.. for ..}) of tuples of ints -/
section
variable {P : Program} {w : World} {K : PySem.W.Frag} {σ : L2.St} {F : Hp} {wi : TI} {g : TG} {tt : L2.TT} {te : TE} {vs : List Nat} {α : Type} {enc : α → PyData} {as : List α} {ev : α → List Int} {n : Nat} {cs : List (List Int)}
theorem e_sortScT (hi : ItP wi σ F (as.map enc)) (hz : as.length ≤ 60) (ht : ∀ a ∈ as, Turn g tt te σ vs F (enc a) true (tD (ev a))) (n1 : 1 ≤ n) (hd : ∀ a ∈ as, (ev a).length = n ∧ TS.Bd 10 (ev a))
    (up : cs.Pairwise fun a b => TS.code 10 a < TS.code 10 b) (hm : ∀ k, k ∈ cs ↔ ∃ a ∈ as, ev a = k) : EvD (tCB (rSortedT K P w) (tCons (tScT P w wi g tt te vs) tNil)) σ F (.list (cs.map tD)) := fun S H1 f s Q q => hi S H1 f s _ fun J H2 s2 it D hD => by
  have f2 := f.mono s2
  have sF := s.trans (offS_mono (S := S) s2)
  let Inv1 : Nat → Hp → Prop := fun i H' => Same H2 H' ∧ ∃ rs, H' D = some (SetTO P w D rs) ∧ rs.length ≤ i ∧ (∀ k, k ∈ rs.map (·.2) ↔ ∃ a ∈ as.take i, ev a = k) ∧ ∀ r ∈ rs, H' r.1 = some (.tup (r.2.map V.int))
  refine ⟨fun i m H' => m = as.length - i ∧ i ≤ as.length ∧ Inv1 i H', ⟨as.length, by simp, Nat.zero_le _, same_new hD, [], upd_same, Nat.le_refl _, fun k => by simp, fun r z => nomatch z⟩, ?_⟩
  rintro i m H' ⟨rfl, hi, s3, rs, hrs, lr, mb, hk⟩
  have f3 : Fr S H' := f2.mono s3
  have jt := it S H' i f3 (offS_mono s3)
  rw [List.length_map] at jt
  by_cases hlt : i < as.length
  · obtain ⟨go, yl⟩ := jt.1 hlt
    refine .inr ⟨go, Inv1 (i + 1), fun H'' p' => ⟨as.length - (i + 1), by omega, rfl, hlt, p'⟩, fun x H'' y => ?_⟩
    have ha : as[i]? = some as[i] := List.getElem?_eq_getElem hlt
    obtain ⟨s5, d, hd', rx⟩ := yl x H'' y
    rw [List.getElem?_map, ha] at hd'
    cases hd'
    have f5 := f3.mono s5
    have e1 : as.take (i + 1) = as.take i ++ [as[i]] := take_more ha
    have sX := sF.trans (offS_mono (S := S) (s3.trans s5))
    refine ht as[i] (List.getElem_mem hlt) x (offS S H'') sX rx S H'' f5 (Same.refl _) _ fun σ2 ⟨ww, hb, he⟩ => ⟨ww, hb S H'' f5 (Same.refl _) _ fun H3 s6 => ?_⟩
    refine he rfl S H3 (f5.mono s6) (offS_mono s6) _ fun v H4 s7 r4 => ?_
    obtain ⟨a, xs, rfl, h4, r5⟩ := rp_tup r4
    rw [rpT_ints r5] at h4
    have s37 := s5.trans (s6.trans s7)
    have hrs4 := s37 _ _ hrs
    have nD : ∀ {b : Addr} {ys : List V}, H4 b = some (.tup ys) → b ≠ D := fun e z => by
      rw [z, hrs4] at e
      cases e
    refine ⟨a, ev as[i], rs, rfl, h4, hrs4, by omega, fun r hr => s37 _ _ (hk r hr), fun rs' c1 c2 => ⟨same_mut (s3.trans s37) hD, rs', upd_same, ?_, fun k => ?_, fun r hr => ?_⟩⟩
    · by_cases hm : ev as[i] ∈ rs.map (·.2)
      · rw [c1 hm]
        omega
      · rw [(c2 hm).length_eq]
        simp only [List.length_cons]
        omega
    · have more : (∃ a ∈ as.take (i + 1), ev a = k) ↔ (∃ a ∈ as.take i, ev a = k) ∨ ev as[i] = k := by
        rw [e1]
        constructor
        · rintro ⟨b, hb, e⟩
          rcases (List.mem_append).mp hb with hb | hb
          · exact .inl ⟨b, hb, e⟩
          · rw [List.mem_singleton.mp hb] at e
            exact .inr e
        · rintro (⟨b, hb, e⟩ | e)
          · exact ⟨b, List.mem_append.mpr (.inl hb), e⟩
          · exact ⟨_, List.mem_append.mpr (.inr (.head _)), e⟩
      rw [more, ← mb k]
      by_cases hm : ev as[i] ∈ rs.map (·.2)
      · rw [c1 hm]
        exact ⟨.inl, fun z => z.elim id fun e => e ▸ hm⟩
      · rw [((c2 hm).map (·.2)).mem_iff, List.map_cons, List.mem_cons]
        exact ⟨fun z => z.elim (fun e => .inr e.symm) .inl, fun z => z.elim .inr fun e => .inl e.symm⟩
    · by_cases hm : ev as[i] ∈ rs.map (·.2)
      · rw [c1 hm] at hr
        have e := s37 _ _ (hk r hr)
        rw [upd_ne (nD e)]
        exact e
      · rcases List.mem_cons.mp ((c2 hm).mem_iff.mp hr) with z | z
        · rw [z, upd_ne (nD h4)]
          exact h4
        · have e := s37 _ _ (hk r z)
          rw [upd_ne (nD e)]
          exact e
  · have e : i = as.length := by omega
    subst e
    rw [List.take_length] at mb
    have each : ∀ k ∈ rs.map (·.2), k.length = n ∧ TS.Bd 10 k := fun k hk => by
      obtain ⟨a, ha, e⟩ := (mb k).mp hk
      rw [← e]
      exact hd a ha
    refine .inl ⟨jt.2 (Nat.le_refl _), (⟨D, rs, n, 10, rfl, hrs, fun p hp => .inl (.inl (hk p hp)), n1, fun p hp => each _ (List.mem_map.mpr ⟨p, hp, rfl⟩), fun L' p pm nd _ pw hp => ?_⟩ : rSortedT K P w [.ref D] H' Q)⟩
    have e : L'.map (·.2) = cs := srt_one (n := n) (by rw [List.pairwise_map]; exact pw) nd (fun k hk => each k ((pm.map (·.2)).mem_iff.mp hk)) up fun k => by rw [(pm.map (·.2)).mem_iff, mb, hm]
    refine q _ _ ((s2.trans s3).trans (same_new hp)) (.lst (by rw [offS_at (f3.new hp), upd_same]) ?_)
    rw [← e, List.map_map]
    have all : ∀ l : List (Addr × List Int), (∀ r ∈ l, H' r.1 = some (.tup (r.2.map V.int))) → RpA (offS S (upd H' p (.lst (L'.map fun q => V.ref q.1)))) (l.map fun q => V.ref q.1) (l.map (tD ∘ fun x => x.2)) := fun l => by
      induction l with
      | nil => exact fun _ => .nil
      | cons r l ih =>
        intro h
        have hr := h r (.head _)
        have np : r.1 ≠ p := fun z => by
          rw [z, hp] at hr
          cases hr
        refine .cons (.tup (xs := r.2.map V.int) ?_ (ints_rpT _)) (ih fun r' hr' => h r' (.tail _ hr'))
        rw [offS_at (f3.imm hr (by simp [MutO])), upd_ne np]
        exact hr
    exact all L' fun r hr => hk r (pm.mem_iff.mp hr)
end
/-! ### dict[..] -/
theorem e_dgetD {σ : L2.St} {F : Hp} {td ty : TE} {ns : List (Int × Int)} {k v : Int} (h : EvD td σ F (.dict (ns.map iD))) (hk : EvD ty σ F (.int k)) (hv : valI ns k = some v) : EvD (tDGet td ty) σ F (.int v) := fun S H1 f s Q q =>
  h S H1 f s _ fun x H2 s2 r => hk S H2 (f.mono s2) (s.trans (offS_mono s2)) _ fun y H3 s3 ry => by
    obtain ⟨a, rfl, ha⟩ := rp_dic r
    cases ry
    have g := DGet.k (k := Sum.inl k) (s3 _ _ (offS_same _ _ ha))
    rw [val_iK, hv] at g
    exact ⟨a, .int v, rfl, g, q _ H3 (s2.trans s3) (.int _)⟩
/-! ### way_of, Question.variables -/
def RWay : List PyData → PyData → Prop := fun ds d => ∃ (ns : List (Int × Int)) (vs : List Int), ds = [.dict (ns.map iD), tD vs] ∧ vs.length ≤ 30 ∧ (∀ x ∈ vs, ∃ v, valI ns x = some v) ∧ d = tD (wayI ns vs)
def IWay : Hp → List V → (Hp → V → Prop) → Prop := fun F us P => ∃ (ns : List (Int × Int)) (vs : List Int) (v1 v2 : V), us = [v1, v2] ∧ Rp F v1 (.dict (ns.map iD)) ∧ TupI vs F v2 ∧ vs.length ≤ 30 ∧ (∀ x ∈ vs, ∃ v, valI ns x = some v) ∧ P = fun H v => Rp H v (tD (wayI ns vs))
def IVars (C : Addr) : Hp → List V → (Hp → V → Prop) → Prop := fun F vs P => ∃ v as, vs = [v] ∧ QV C as F v ∧ P = FzI (nms as)
theorem e_used {K : PySem.W.Frag} {σ : L2.St} {F : Hp} {ta : TE} {C : Addr} {as : List At} (cl : Cls K C) (nU : NoAttr K C "used") (h : EvP ta σ F (QV C as)) : EvP (tFld K ta "used") σ F (FzI (nms as)) := fun S H1 f s Q q =>
  h S H1 f s _ fun v H2 s2 p => by
    obtain ⟨x, dx, pp, rfl, hq⟩ := p
    obtain ⟨o, u, ns, h1, h2, h3, h4, _⟩ := hq.obj
    have e : ns = sd (vars as) := up_eq h3 (sd_up _) fun k => (h4 k).trans sd_mem.symm
    subst e
    exact ⟨x, C, dx, _, _, rfl, offS_same _ _ h1, cl, nU, qf_used _ _ _, q _ H2 s2 ⟨u, rfl, h2⟩⟩
theorem qv_insA {C : Addr} {as : List At} {F : Hp} {v : V} (h : QV C as F v) : ∃ a dx fs, v = .ref a ∧ F a = some (.ins C dx fs) := by
  obtain ⟨x, dx, p, rfl, hq⟩ := h
  obtain ⟨o, u, ns, h1, _⟩ := hq.obj
  exact ⟨x, dx, _, rfl, h1⟩
theorem qv_vars {C : Addr} {as : List At} : ∀ F v, QV C as F v → IVars C F [v] (FzI (nms as)) ∧ ∃ a dx fs, v = .ref a ∧ F a = some (.ins C dx fs) := fun F v h => ⟨⟨v, as, rfl, h, rfl⟩, qv_insA h⟩
abbrev s_qvars : Stmt := inClass cQ 2
theorem sc_qvars : FnScope ["self"] ["self"] (defScope s_qvars) := ⟨rfl, rfl, rfl, by decide +kernel, rfl, by decide +kernel, by decide +kernel⟩
theorem nms_len (as : List At) : (nms as).length ≤ 2 * as.length := by
  have l : ∀ l : List Int, (sd l).length ≤ l.length := fun l => by
    induction l with
    | nil => exact Nat.le_refl _
    | cons x l ih =>
      have ins : ∀ (n : Int) (l : List Int), (ins1 n l).length ≤ l.length + 1 := fun n l => by
        induction l with
        | nil => exact Nat.le_refl _
        | cons m l ih =>
          unfold ins1
          split
          · exact Nat.le_refl _
          · split
            · simp
            · simp only [List.length_cons]
              omega
      have h1 := ins x (sd l)
      show (ins1 x (sd l)).length ≤ _
      simp only [List.length_cons]
      omega
  have v : ∀ as : List At, (vars as).length = 2 * as.length := fun as => by
    induction as with
    | nil => rfl
    | cons a as ih =>
      show ([a.l, a.r] ++ vars as).length = _
      rw [List.length_append, ih, List.length_cons]
      simp only [List.length_cons, List.length_nil]
      omega
  have := l (vars as)
  rw [v] at this
  exact this
theorem nms_ne {as : List At} (h : 1 ≤ as.length) : 1 ≤ (nms as).length := by
  cases as with
  | nil => cases h
  | cons a as =>
    have : a.l ∈ nms (a :: as) := sd_mem.mpr (vl_in (.head _))
    exact List.length_pos_of_mem this
section
variable {P : Program} {w : World} {K : PySem.W.Frag} {mg : PySem.Str → Option Value} {base : Heap}
theorem ok_qvars {f C N : Addr} {fd : FuncData} (F : FnM K "variables" "Question.variables" s_qvars f fd) (TQ : QT K mg C N) : FnOk P w K mg base CX0 1 f fd ["self"] (spQ (IVars C)) := by
  refine F.ok sc_qvars (spQ_len (by rintro _ _ _ ⟨v, as, rfl, _⟩; rfl)) (fun cdv A outer s H vs Q E hr h => ?_)
  obtain ⟨S, P0, fr, ⟨v, as, rfl, hq, rfl⟩, q⟩ := h
  refine ⟨_, PSs.nox (pss_one (ps_ret (pe_fld (pv 0) rfl))), ?_⟩
  exact go_ret (P := FzI (nms as)) fr (e_used TQ.cl TQ.nU (e_varP (P := QV C as) rfl fun _ s => hq.mono s)) q
end
end Q

set_option maxHeartbeats 4000000
namespace Q
open PySem PySem.Spec PyProof.Rows L2 Ca TQ GenW
theorem b_eq {tt : L2.TT} {σ : L2.St} {F : Hp} {b c : Bool} (h : EvB tt σ F b) (e : b = c) : EvB tt σ F c := e ▸ h
/-! ### how many, how great -/
theorem putI_len (ns : List (Int × Int)) (k v : Int) : (putI ns k v).length ≤ ns.length + 1 := by
  unfold putI
  split
  · rw [List.length_map]
    omega
  · rw [List.length_append]
    simp
theorem mergeI_len : ∀ (ms ns : List (Int × Int)), (mergeI ns ms).length ≤ ns.length + ms.length
  | [], ns => Nat.le_refl _
  | p :: ms, ns => by
    have e : mergeI ns (p :: ms) = mergeI (putI ns p.1 p.2) ms := rfl
    rw [e, List.length_cons]
    have h1 := mergeI_len ms (putI ns p.1 p.2)
    have h2 := putI_len ns p.1 p.2
    omega
def dl (b : Nat) : Nat → Nat
  | 0 => 1
  | n + 1 => dl b n * (b - n)
theorem dl_24 : ∀ b, b < 5 → ∀ n, n < 5 → dl b n ≤ 24 := by decide
theorem snds_small : ∀ (n : Nat) (as bs : List At), as.length = n → (snds as bs).length ≤ dl bs.length n ∧ ∀ c ∈ snds as bs, c.1.length ≤ 2 * n ∧ c.2.length ≤ bs.length
  | 0, as, bs, hn => by
    have e : as = [] := List.eq_nil_of_length_eq_zero hn
    subst e
    refine ⟨Nat.le_refl _, fun c hc => ?_⟩
    have e : c = ([], bs) := by simpa [snds] using hc
    subst e
    exact ⟨Nat.le_refl _, Nat.le_refl _⟩
  | n + 1, as, bs, hn => by
    have ne : as ≠ [] := fun z => by rw [z] at hn; cases hn
    obtain ⟨ts, a, rfl⟩ : ∃ ts a, as = ts ++ [a] := ⟨as.dropLast, as.getLast ne, (List.dropLast_concat_getLast ne).symm⟩
    rw [List.length_append] at hn
    have hl : ts.length = n := by simpa using hn
    obtain ⟨i1, i2⟩ := snds_small n ts bs hl
    rw [snds_snoc]
    constructor
    · have each : ∀ f : List Snd, (∀ c ∈ f, c.2.length ≤ bs.length - n) → (stepS a f).length ≤ f.length * (bs.length - n) := fun f => by
        induction f with
        | nil => exact fun _ => Nat.zero_le _
        | cons c f ih =>
          intro h
          have e : stepS a (c :: f) = ((c.2.zipIdx.filter fun p => agA c.1 a p.1).map fun p => nxS a c p.1 p.2) ++ stepS a f := rfl
          rw [e, List.length_append, List.length_map, List.length_cons, Nat.add_mul, Nat.one_mul]
          have h1 := List.length_filter_le (fun p : At × Nat => agA c.1 a p.1) c.2.zipIdx
          rw [List.length_zipIdx] at h1
          have h2 := h c (.head _)
          have h3 := ih fun d hd => h d (.tail _ hd)
          omega
      refine Nat.le_trans (each _ fun c hc => ?_) (Nat.mul_le_mul_right _ i1)
      have p := (snd_ok n ts bs hl c hc).pm.length_eq
      rw [List.length_append, List.length_map, hl] at p
      omega
    · intro d hd
      obtain ⟨c, hc, i, b, hi, _, rfl⟩ := mem_step.mp hd
      obtain ⟨j1, j2⟩ := i2 c hc
      constructor
      · show (mergeI c.1 (mergeI [] [(a.l, b.l), (a.r, b.r)])).length ≤ 2 * (n + 1)
        have h1 := mergeI_len (mergeI [] [(a.l, b.l), (a.r, b.r)]) c.1
        have h2 := mergeI_len [(a.l, b.l), (a.r, b.r)] []
        simp only [List.length_cons, List.length_nil] at h2
        omega
      · have := (take_drop_perm hi).length_eq
        rw [List.length_cons] at this
        show (c.2.take i ++ c.2.drop (i + 1)).length ≤ _
        omega
theorem snds_24 {as bs : List At} (h1 : as.length ≤ 4) (h2 : bs.length ≤ 4) : (snds as bs).length ≤ 24 := Nat.le_trans (snds_small _ as bs rfl).1 (dl_24 _ (by omega) _ (by omega))
/-! ### sendings -/
def sndD (c : Snd) : PyData := .tuple [.dict (c.1.map iD), .tuple (c.2.map atD)]
def enA (p : At × Nat) : PyData := .tuple [.int (p.2 : Int), atD p.1]
theorem enD_zip : ∀ (l : List At) (n : Nat), enD n (l.map atD) = (l.zipIdx n).map enA
  | [], _ => rfl
  | a :: l, n => by
    show PyData.tuple [.int (n : Int), atD a] :: enD (n + 1) (l.map atD) = _
    rw [enD_zip l (n + 1)]
    rfl
def fin (as bs : List At) : List Snd := (snds as bs).filter fun c => decide ((c.2.length : Int) = 0)
theorem mem_fin {as bs : List At} {c : Snd} : c ∈ fin as bs ↔ c ∈ snds as bs ∧ c.2 = [] := by
  unfold fin
  rw [List.mem_filter, decide_eq_true_eq]
  constructor
  · rintro ⟨h1, h2⟩
    exact ⟨h1, List.eq_nil_of_length_eq_zero (by omega)⟩
  · rintro ⟨h1, h2⟩
    rw [h2]
    exact ⟨h1, rfl⟩
end Q

set_option maxHeartbeats 4000000
namespace Q
open PySem PySem.Spec PyProof.Rows L2 Ca TQ GenW
/-! ### all_coverings -/
/-- two questions and what is told of them -/
def ITwo (C : Addr) (tell : List At → List At → PyData) : Hp → List V → (Hp → V → Prop) → Prop := fun F vs P => ∃ v1 v2 as bs, vs = [v1, v2] ∧ QV C as F v1 ∧ QV C bs F v2 ∧ (∀ a ∈ as, Good a) ∧ (∀ b ∈ bs, Good b) ∧ 1 ≤ as.length ∧ as.length ≤ 4 ∧ bs.length ≤ 4 ∧ P = fun H v => Rp H v (tell as bs)
noncomputable def covD (as bs : List At) : PyData := .list ((covs as bs).map tD)
theorem fin_small {as bs : List At} (h1 : as.length ≤ 4) (h2 : bs.length ≤ 4) : (fin as bs).length ≤ 24 := Nat.le_trans (List.length_filter_le _ _) (snds_24 h1 h2)
theorem fin_known {as bs : List At} {c : Snd} (h : c ∈ fin as bs) : ∀ x ∈ nms as, ∃ v, valI c.1 x = some v := fun x hx => ((snd_ok _ as bs rfl c (mem_fin.mp h).1).dom x).mpr (sd_mem.mp hx)
theorem covs_fin {as bs : List At} (g : ∀ b ∈ bs, Good b) (k : List Int) : k ∈ covs as bs ↔ ∃ c ∈ fin as bs, wayI c.1 (nms as) = k := by
  rw [mem_covs g]
  constructor
  · intro h
    obtain ⟨c, h1, h2, h3⟩ := cov_way h
    exact ⟨c, mem_fin.mpr ⟨h1, h2⟩, h3⟩
  · rintro ⟨c, hc, rfl⟩
    obtain ⟨h1, h2⟩ := mem_fin.mp hc
    exact way_cov h1 h2
theorem nd_len {α : Type} [DecidableEq α] : ∀ {l m : List α}, l.Nodup → (∀ x ∈ l, x ∈ m) → l.length ≤ m.length
  | [], m, _, _ => m.length.zero_le
  | a :: l, m, h, s => by
    obtain ⟨h1, h2⟩ := (List.nodup_cons).mp h
    have ha : a ∈ m := s a (.head _)
    have ih := nd_len (l := l) (m := m.erase a) h2 fun x hx => (List.mem_erase_of_ne fun e => h1 (by rw [← e]; exact hx)).mpr (s x (.tail _ hx))
    rw [List.length_erase_of_mem ha] at ih
    have := List.length_pos_of_mem ha
    rw [List.length_cons]
    omega
theorem covs_len {as bs : List At} (h1 : as.length ≤ 4) (h2 : bs.length ≤ 4) (g : ∀ b ∈ bs, Good b) : (covs as bs).length ≤ 24 := by
  have nd : (covs as bs).Nodup := (covs_up as bs).imp fun {a b} z e => by rw [e] at z; omega
  have sub : ∀ k ∈ covs as bs, k ∈ (fin as bs).map fun c => wayI c.1 (nms as) := fun k hk => List.mem_map.mpr ((covs_fin g k).mp hk)
  have l := nd_len nd sub
  rw [List.length_map] at l
  exact Nat.le_trans l (fin_small h1 h2)
end Q

set_option maxHeartbeats 4000000
namespace Q
open PySem PySem.Spec PyProof.Rows L2 Ca TQ GenW
/-! ### len(set(t)), t a tuple of ints -/
theorem sd_nd (l : List Int) : (sd l).Nodup := (sd_up l).imp fun h => Int.ne_of_lt h
theorem sd_len {l m : List Int} (nd : m.Nodup) (h : ∀ k, k ∈ m ↔ k ∈ l) : m.length = (sd l).length :=
  Nat.le_antisymm (nd_len nd fun k hk => sd_mem.mpr ((h k).mp hk)) (nd_len (sd_nd l) fun k hk => (h k).mpr (sd_mem.mp hk))
theorem sd_full : ∀ {l : List Int}, (sd l).length = l.length ↔ l.Nodup
  | [] => ⟨fun _ => List.nodup_nil, fun _ => rfl⟩
  | x :: t => by
    constructor
    · intro h
      have le : ∀ m : List Int, (sd m).length ≤ m.length := fun m => nd_len (sd_nd m) fun k hk => sd_mem.mp hk
      have nx : x ∉ t := fun z => by
        have := nd_len (l := sd (x :: t)) (m := t) (sd_nd _) fun k hk => (List.mem_cons.mp (sd_mem.mp hk)).elim (fun e => e ▸ z) id
        rw [h, List.length_cons] at this
        omega
      have one := nd_len (l := sd (x :: t)) (m := x :: sd t) (sd_nd _) fun k hk => (List.mem_cons.mp (sd_mem.mp hk)).elim (fun e => by rw [e]; exact .head _) fun z => .tail _ (sd_mem.mpr z)
      have lt := le t
      rw [h, List.length_cons, List.length_cons] at one
      exact List.nodup_cons.mpr ⟨nx, sd_full.mp (by omega)⟩
    · intro h
      exact (sd_len h fun k => Iff.rfl).symm
section
variable {X : Cx}
def tLenSetT (K : PySem.W.Frag) (ta : TE) : TE := fun σ H R => ta σ H fun x H1 => ∃ (p : Addr) (ns : List Int), x = V.ref p ∧ SqT K H1 p (ns.map V.int) ∧ ns.length ≤ 1000 ∧ R (.int ((sd ns).length : Nat)) H1
theorem pe_lenSetT {K : PySem.W.Frag} {a : Expr} {ta : TE} {p p2 q pos : Pos} (hK : X.K = K) (hc : X.calm = true) (hg : Gl X "len") (hm : X.mg "len" = none) (hg2 : Gl X "set") (hm2 : X.mg "set" = none) (ha : PE X a ta)
    (na : starEach [a] X.env = (false, eval a X.env) :: starEach [] X.env := by rfl) : PE X (.Call (.Name "len" p) [.Call (.Name "set" p2) [a] [] q] [] pos) (tLenSetT K ta) := by
  subst hK
  refine ⟨fun pins s σ H R I h => ?_⟩
  refine Call_ (ld_blt I hg hm PySem.boot_len (PyProof.Rows.callWith_builtin1 (PyProof.Rows.args_cons ?_ rfl) rfl rfl))
  refine Call_ (ld_blt I hg2 hm2 PyProof.Rows.boot_set (PyProof.Rows.callWith_type1 (PyProof.Rows.args_cons (thn (ha.run pins s σ H _ I h) fun v s1 ⟨x, H1, I1, r1, q1⟩ => PyProof.Rows.args_nil ?_) na) na rfl))
  obtain ⟨t, ns, rfl, hq, hz, q1⟩ := q1
  cases r1
  obtain ⟨its, r, pl, _⟩ := I1.tuple hq
  refine call_set_tupI ns (I1.ok.hd hc) (show s1.heap.IsTuple t its.toArray from pl) (ints_of_vals r) (by unfold scanBound; omega) fun h' tk c S hcn k => ?_
  obtain ⟨o, es, ep, tb, ho, hex, hd, _, nd, hm3, _, hf, hn, _⟩ := S
  have sz : es.size = (sd ns).length := by
    rw [← sd_len nd fun j => (hm3 j).symm.trans decide_eq_true_iff, List.length_map, Array.length_toList]
  have lz : es.size ≤ 1000 := by omega
  refine (PyProof.Rows.args_nil ?_)
  have I2 : Inv X pins σ H1 { s1 with heap := h', toks := tk } := I1.kept k
  exact call_len_set ho hex hd hf (by omega) ⟨.int ((sd ns).length : Nat), H1, I2.tok _, ⟨_, by rw [sz]⟩, q1⟩
theorem e_lenSetT {K : PySem.W.Frag} {σ : L2.St} {F : Hp} {ta : TE} {ns : List Int} (h : EvD ta σ F (tD ns)) (hz : ns.length ≤ 1000) : EvD (tLenSetT K ta) σ F (.int ((sd ns).length : Nat)) := fun S H1 f s R q =>
  h S H1 f s _ fun v H2 s2 r => by
    obtain ⟨a, xs, rfl, ha, rx⟩ := rp_tup r
    rw [rpT_ints rx] at ha
    exact ⟨a, ns, rfl, .inl (.inl ha), hz, q _ H2 s2 (.int _)⟩
end
/-! ### all_renamings, renamings -/
noncomputable def rens (as bs : List At) : List (List Int) := (covs as bs).filter fun k => decide (((sd k).length : Int) = (k.length : Int))
noncomputable def renD (as bs : List At) : PyData := .list ((rens as bs).map tD)
theorem mem_rens {as bs : List At} {k : List Int} (g : ∀ b ∈ bs, Good b) : k ∈ rens as bs ↔ isCov as bs k ∧ k.Nodup := by
  unfold rens
  rw [List.mem_filter, mem_covs g, decide_eq_true_eq, ← sd_full]
  constructor
  · rintro ⟨h1, h2⟩
    exact ⟨h1, by omega⟩
  · rintro ⟨h1, h2⟩
    exact ⟨h1, by omega⟩
theorem rens_up (as bs : List At) : (rens as bs).Pairwise fun a b => TS.code 10 a < TS.code 10 b := (covs_up as bs).filter _
theorem rens_len {as bs : List At} (h1 : as.length ≤ 4) (h2 : bs.length ≤ 4) (g : ∀ b ∈ bs, Good b) : (rens as bs).length ≤ 24 := Nat.le_trans (List.length_filter_le _ _) (covs_len h1 h2 g)
def ITwoG (C : Addr) (tell : List At → List At → List (List Int)) : Hp → List V → List PyData → Prop := fun F vs es => ∃ v1 v2 as bs, vs = [v1, v2] ∧ QV C as F v1 ∧ QV C bs F v2 ∧ (∀ a ∈ as, Good a) ∧ (∀ b ∈ bs, Good b) ∧ 1 ≤ as.length ∧ as.length ≤ 4 ∧ bs.length ≤ 4 ∧ es = (tell as bs).map tD
end Q

set_option maxHeartbeats 4000000
namespace Q
open PySem PySem.Spec PyProof.Rows L2 Ca TQ
/-! ### dict(zip(..)) over iterators of any two kinds -/
section
variable {prog : Program} {w : World} {A : Around} {s : Shared} {z TI TO T i1 i2 : Addr} {f : Bool} {oT : Obj} {fa fb : List Addr} {na nb i : Nat} {Pa Pb : Nat → Value → Prop} {Ga Gb : Nat → Heap → Prop}
/-- what stays while a zip of two turns whose last pair is still held -/
abbrev Far (z i1 i2 : Addr) (h h' : Heap) : Prop := ∀ c o, c ≠ z → c ≠ i1 → c ≠ i2 → h.get? c = some o → h'.get? c = some o
/-- one turn of it: a new pair, or the end -/
theorem held_turn {R E : Value → Shared → Prop} (S : ZipSep2 z TI TO i1 i2 fa fb) (Da : Draws prog w A i1 fa na Pa Ga) (Db : Draws prog w A i2 fb nb Pb Gb) (hz : IsZipHeld s.heap z TI TO T f) (hT : s.heap.get? T = some oT)
    (hTI : IsTupOf2 s.heap TI (.ref i1) (.ref i2)) (ga : Ga i s.heap) (gb : Gb i s.heap) (la : i ≤ na) (lb : i ≤ nb)
    (go : ∀ x y h' t, i < na → i < nb → Pa i x → Pb i y → IsZipHeld h' z TI TO T true → Ga (i + 1) h' → Gb (i + 1) h' → IsTupOf2 h' s.heap.objs.size x y → Far z i1 i2 s.heap h' → R (.ref s.heap.objs.size) { s with heap := h', toks := t })
    (over : ∀ h' t e, i = na ∨ i = nb → Far z i1 i2 s.heap h' → (∃ o, h'.get? e = some o ∧ o.cls = .type "StopIteration") → E (.ref e) { s with heap := h', toks := t }) :
    wpAny (model prog w) A (Builtin.«zip.__next__» ⟨[.ref z], []⟩) (fun r s' => ∃ v, r = .done (.ret v) ∧ R v s') E s := by
  obtain ⟨hp, gns, dd, t0, os⟩ := s
  refine (show wpAny _ _ (field (.ref z) 2 >>= _) _ _ _ from wpAny_bind (wpAny_field hz rfl (x := .bool false) rfl (show wpAny _ _ (field (.ref z) 3 >>= _) _ _ _ from wpAny_bind (wpAny_field hz rfl (x := .ref TI) rfl
    (wpAny_bind (wpAny_seqItems hTI rfl (show wpAny _ _ (Builtin.SmallTypes.ownedTupleIsFree (.ref z) >>= _) _ _ _ from wpAny_bind (wpAny_tupleHeld_zip hz hT fun hA zA sA => ?_))))))))
  replace sA : Heap.SameBut z hp hA := sA
  simp only [Bool.false_eq_true, if_false]
  refine wpAny_bind ?_
  rw [← Array.forIn_toList]
  simp only [List.forIn_cons, List.forIn_nil, pure_bind]
  refine wpAny_bind (wpAny_bind (wpAny_holding (show wpAny _ _ (Builtin.SmallTypes.nextOf (.ref i1) >>= _) _ _ ⟨hA, gns, dd, t0, os⟩ from ?_)))
  by_cases ma : i < na
  · refine wpAny_bind (Da.item i _ _ _ ma (Da.over ga sA S.zf1) fun x h1 t1 px g1 s1 => wpAny_pure (wpAny_pure (wpAny_bind (wpAny_bind (wpAny_holding (show wpAny _ _ (Builtin.SmallTypes.nextOf (.ref i2) >>= _) _ _ ⟨h1, gns, dd, t1, os⟩ from ?_))))))
    replace s1 : Heap.SameBut i1 hA h1 := s1
    have gb1 := Db.over (Db.over gb sA S.zf2) s1 S.sep1_2
    by_cases mb : i < nb
    · refine wpAny_bind (Db.item i _ _ _ mb gb1 fun y h2 t2 py g2 s2 => wpAny_pure (wpAny_pure (wpAny_pure (show wpAny _ _ (newTuple [x, y] >>= _) _ _ ⟨h2, gns, dd, t2, os⟩ from wpAny_bind (wpAny_newTuple (wpAny_pure ⟨_, rfl, ?_⟩))))))
      replace s2 : Heap.SameBut i2 h1 h2 := s2
      show R (.ref h2.objs.size) ⟨h2.push { cls := .type "tuple", data := .seq #[x, y] }, gns, dd, t2, os⟩
      have pair : IsTupOf2 (h2.push { cls := .type "tuple", data := .seq #[x, y] }) h2.objs.size x y := Heap.get?_push_size _ rfl
      rw [show h2.objs.size = hp.objs.size by rw [s2.1, s1.1, sA.1]] at pair ⊢
      have up : ∀ {c o}, h2.get? c = some o → (h2.push { cls := .type "tuple", data := .seq #[x, y] }).get? c = some o := fun e => Heap.get?_push_of_some _ e
      exact go x y _ t2 ma mb px py (up (s2.extBut _ _ S.zi2 (s1.extBut _ _ S.zi1 zA))) (Da.frame _ _ _ (Da.over g1 s2 S.sep2_1) fun _ _ _ e => up e) (Db.frame _ _ _ g2 fun _ _ _ e => up e) pair
        fun c o c1 c2 c3 e => up (s2.extBut _ _ c3 (s1.extBut _ _ c2 (sA.extBut _ _ c1 e)))
    · have eb : i = nb := Nat.le_antisymm lb (Nat.le_of_not_lt mb)
      exact wpAny_bind (Db.done ⟨h1, gns, dd, t1, os⟩ _ _ (eb ▸ gb1) fun h2 e kp he => over h2 t1 e (.inr eb) (fun c o c1 c2 c3 x => kp _ _ c3 (s1.extBut _ _ c2 (sA.extBut _ _ c1 x))) he)
  · have ea : i = na := Nat.le_antisymm la (Nat.le_of_not_lt ma)
    exact wpAny_bind (Da.done ⟨hA, gns, dd, t0, os⟩ _ _ (ea ▸ Da.over ga sA S.zf1) fun h1 e kp he => over h1 t0 e (.inl ea) (fun c o c1 c2 _ x => kp _ _ c2 (sA.extBut _ _ c1 x)) he)
/-- the same, asked by next -/
theorem held_next {Q : Option Value → Shared → Prop} {E : Value → Shared → Prop} (S : ZipSep2 z TI TO i1 i2 fa fb) (Da : Draws prog w A.in1 i1 fa na Pa Ga) (Db : Draws prog w A.in1 i2 fb nb Pb Gb) (hz : IsZipHeld s.heap z TI TO T f) (hT : s.heap.get? T = some oT)
    (hTI : IsTupOf2 s.heap TI (.ref i1) (.ref i2)) (ga : Ga i s.heap) (gb : Gb i s.heap) (la : i ≤ na) (lb : i ≤ nb)
    (go : ∀ x y h' t, i < na → i < nb → Pa i x → Pb i y → IsZipHeld h' z TI TO T true → Ga (i + 1) h' → Gb (i + 1) h' → IsTupOf2 h' s.heap.objs.size x y → Far z i1 i2 s.heap h' → Q (some (.ref s.heap.objs.size)) { s with heap := h', toks := t })
    (over : ∀ h' t, i = na ∨ i = nb → Far z i1 i2 s.heap h' → Q none { s with heap := h', toks := t }) : wpAny (model prog w) A (pyNext (.ref z)) Q E s := by
  have ty : s.TypeIs (.ref z) "zip" := ⟨_, hz, rfl⟩
  unfold pyNext
  refine wpAny_bind (wpAny_attempt (wpAny_callSpecial?_slot (name := Str.ofString "__next__") ty F.slot_zip_next (wpAny_call_entry F.slot_zip_next ty F.entry_zip_next (held_turn S Da Db hz hT hTI ga gb la lb
    (fun x y h' t m1 m2 a1 a2 a3 a4 a5 a6 a7 => wpAny_pure (go x y h' t m1 m2 a1 a2 a3 a4 a5 a6 a7)) fun h' t e hi far ⟨o, ho, hc⟩ => ?_) (F.args_zip_next_1 _))))
  exact wpAny_bind (wpAny_isInstance (T := "StopIteration") (b := true) ⟨o, ho, hc⟩ isSubtype_stop (wpAny_pure (over _ _ hi far)))
/-- how a zip stands before turn i, while a dict is filled at d -/
def ZNow (z TI TO i1 i2 d : Addr) (Ga Gb : Nat → Heap → Prop) (i : Nat) (h : Heap) : Prop := IsTupOf2 h TI (.ref i1) (.ref i2) ∧ Ga i h ∧ Gb i h ∧
  ((IsZip h z TI TO .none ∧ ∃ x y, IsTupOf2 h TO x y) ∨ ∃ T f, IsZipHeld h z TI TO T f ∧ (∃ o, h.get? T = some o) ∧ (T ≠ z ∧ T ≠ i1 ∧ T ≠ i2) ∧ T ≠ d)
theorem four_in {z TO i1 i2 c : Addr} (h : c ∉ [z, TO, i1, i2]) : c ≠ z ∧ c ≠ TO ∧ c ≠ i1 ∧ c ≠ i2 := ⟨fun e => h (by simp [e]), fun e => h (by simp [e]), fun e => h (by simp [e]), fun e => h (by simp [e])⟩
/-- a zip of two iterators as what dict() is given -/
theorem zip_arg (S : ZipSep2 z TI TO i1 i2 fa fb) (Da : ∀ A : Around, A.handled = none → Draws prog w A i1 fa na Pa Ga) (Db : ∀ A : Around, A.handled = none → Draws prog w A i2 fb nb Pb Gb)
    (ka : ∀ i h h', Ga i h → (∀ b ∈ fa, ∀ o, h.get? b = some o → h'.get? b = some o) → Ga i h') (kb : ∀ i h h', Gb i h → (∀ b ∈ fb, ∀ o, h.get? b = some o → h'.get? b = some o) → Gb i h')
    (ea : ∀ i h, Ga i h → ∀ b ∈ fa, ∃ o, h.get? b = some o) (eb : ∀ i h, Gb i h → ∀ b ∈ fb, ∃ o, h.get? b = some o) :
    PairArg prog w "zip" z (z :: TI :: TO :: (fa ++ fb)) [z, TO, i1, i2] (min na nb) (fun i k v => Pa i k ∧ Pb i v)
      (fun h => IsZip h z TI TO .none ∧ IsTupOf2 h TI (.ref i1) (.ref i2) ∧ (∃ a b, IsTupOf2 h TO a b) ∧ Ga 0 h ∧ Gb 0 h) := by
  refine { type := fun _ ok => ⟨_, ok.1, rfl⟩, notDict := by decide, keep := fun h h' ok hk => ?_, there := fun h ok b hb => ?_, sub := fun b hb => ?_, noKeys := fun A s Q E calm ok q => getAttrOr_miss_zip (And.left ok) rfl rfl rfl zip_no_keys (by decide +kernel) calm q, iter := fun A s d Q E calm ok hd nd q => ?_ }
  · exact ⟨hk _ _ ok.1, hk _ _ ok.2.1, ok.2.2.1.imp fun _ => Exists.imp fun _ => hk _ _, ka _ _ _ ok.2.2.2.1 fun b _ => hk b, kb _ _ _ ok.2.2.2.2 fun b _ => hk b⟩
  · obtain ⟨hz, hTI, ⟨x, y, hTO⟩, ga, gb⟩ := ok
    exact (List.mem_cons.mp hb).elim (fun e => e ▸ ⟨_, hz⟩) fun hb => (List.mem_cons.mp hb).elim (fun e => e ▸ ⟨_, hTI⟩) fun hb => (List.mem_cons.mp hb).elim (fun e => e ▸ ⟨_, hTO⟩) fun hb => (List.mem_append.mp hb).elim (ea _ _ ga b) (eb _ _ gb b)
  · have tl : ∀ {c}, c ∈ fa ++ fb → c ∈ z :: TI :: TO :: (fa ++ fb) := fun h => .tail _ (.tail _ (.tail _ h))
    exact (List.mem_cons.mp hb).elim (fun e => e ▸ .head _) fun hb => (List.mem_cons.mp hb).elim (fun e => e ▸ .tail _ (.tail _ (.head _))) fun hb => (List.mem_cons.mp hb).elim (fun e => e ▸ tl (List.mem_append_left _ S.mem1)) fun hb => List.mem_singleton.mp hb ▸ tl (List.mem_append_right _ S.mem2)
  · obtain ⟨hz, hTI, hTO, ga, gb⟩ := ok
    have nz : d ≠ z := fun e => nd (e ▸ .head _)
    have nI : d ≠ TI := fun e => nd (e ▸ .tail _ (.head _))
    have nO : d ≠ TO := fun e => nd (e ▸ .tail _ (.tail _ (.head _)))
    have nA : d ∉ fa := fun h => nd (.tail _ (.tail _ (.tail _ (List.mem_append_left _ h))))
    have nB : d ∉ fb := fun h => nd (.tail _ (.tail _ (.tail _ (List.mem_append_right _ h))))
    have Ua := Da A.in1 calm
    have Ub := Db A.in1 calm
    refine wpAny_pyIter_zip hz (q z [z, TO, i1, i2] (ZNow z TI TO i1 i2 d Ga Gb) s.heap s.toks { off := fun h => ?_, frame := fun i h h' st hk => ?_, item := fun i s1 Q1 E1 hi st hds q1 => ?_, done := fun s1 Q1 E1 st q1 => ?_ } ⟨hTI, ga, gb, .inl ⟨hz, hTO⟩⟩ (fun _ _ e => e) fun _ hb => .inl hb)
    · exact (List.mem_cons.mp h).elim nz fun h => (List.mem_cons.mp h).elim nO fun h => (List.mem_cons.mp h).elim (fun e => nA (e ▸ S.mem1)) fun h => nB (List.mem_singleton.mp h ▸ S.mem2)
    · refine ⟨hk _ _ nI.symm st.1, ka _ _ _ st.2.1 fun b hb o => hk b o fun e => nA (e ▸ hb), kb _ _ _ st.2.2.1 fun b hb o => hk b o fun e => nB (e ▸ hb), st.2.2.2.imp (fun ⟨y1, y2⟩ => ⟨hk _ _ nz.symm y1, y2.imp fun _ => Exists.imp fun _ => hk _ _ nO.symm⟩) ?_⟩
      exact fun ⟨T, f, y1, y2, y3, y4⟩ => ⟨T, f, hk _ _ nz.symm y1, y2.imp fun _ => hk _ _ y4, y3, y4⟩
    · have ma : i < na := Nat.lt_of_lt_of_le hi (Nat.min_le_left ..)
      have mb : i < nb := Nat.lt_of_lt_of_le hi (Nat.min_le_right ..)
      obtain ⟨tI, g1, g2, now⟩ := st
      have young : ∀ {c}, (∃ o, s1.heap.get? c = some o) → s1.heap.objs.size ≠ c := fun ⟨_, e⟩ => Nat.ne_of_gt (Heap.lt_size e)
      rcases now with ⟨y1, x0, y0, y2⟩ | ⟨T, f, y1, ⟨oT, y2⟩, y3, y4⟩
      · exact wpAny_pyNext_zipD2_item S Ua Ub y1 tI y2 g1 g2 ma mb fun x y h' t p1 p2 a1 _ a3 a4 a5 _ far => q1 s1.heap.objs.size _ _ h' t ⟨p1, p2⟩ (.inl ⟨_, a5, rfl, _, rfl⟩)
          ⟨far _ _ S.TIz S.TITO S.TIi1 S.TIi2 tI, a3, a4, .inr ⟨_, false, a1, ⟨_, a5⟩, ⟨young ⟨_, y1⟩, young (Ua.live _ _ g1), young (Ub.live _ _ g2)⟩, Nat.ne_of_gt hds⟩⟩ fun c o n e => far c o (four_in n).1 (four_in n).2.1 (four_in n).2.2.1 (four_in n).2.2.2 e
      · exact held_next S Ua Ub y1 y2 tI g1 g2 (Nat.le_of_lt ma) (Nat.le_of_lt mb) (fun x y h' t _ _ p1 p2 a1 a3 a4 a5 far => q1 s1.heap.objs.size _ _ h' t ⟨p1, p2⟩ (.inl ⟨_, a5, rfl, _, rfl⟩)
          ⟨far _ _ S.TIz S.TIi1 S.TIi2 tI, a3, a4, .inr ⟨T, true, a1, ⟨oT, far _ _ y3.1 y3.2.1 y3.2.2 y2⟩, y3, y4⟩⟩ fun c o n e => far c o (four_in n).1 (four_in n).2.2.1 (four_in n).2.2.2 e) fun _ _ e _ => absurd e (by omega)
    · obtain ⟨tI, g1, g2, now⟩ := st
      have fin : min na nb = na ∨ min na nb = nb := by omega
      rcases now with ⟨y1, x0, y0, y2⟩ | ⟨T, f, y1, ⟨oT, y2⟩, y3, y4⟩
      · exact wpAny_pyNext_zipD2_end S Ua Ub y1 tI y2 g1 g2 (Nat.min_le_left ..) (Nat.min_le_right ..) fin fun h' t far => q1 h' t fun c o n e => far c o (four_in n).1 (four_in n).2.1 (four_in n).2.2.1 (four_in n).2.2.2 e
      · exact held_next S Ua Ub y1 y2 tI g1 g2 (Nat.min_le_left ..) (Nat.min_le_right ..) (fun _ _ _ _ ma mb => absurd fin (by omega)) fun h' t _ far => q1 h' t fun c o n e => far c o (four_in n).1 (four_in n).2.2.1 (four_in n).2.2.2 e
end
end Q

set_option maxHeartbeats 4000000
namespace Q
open PySem PySem.Spec PyProof.Rows L2 Ca TQ
theorem four_apart {b N : Nat} (lt : b < N) (h : b = N + 4 ∨ b = N + 3 ∨ b = N ∨ b = N + 1) : False := by omega
theorem list_there {i1 l : Addr} {items : Array Value} (i : Nat) (h : Heap) (st : h.IsListIter i1 l i ∧ h.IsList l items) : ∀ b ∈ [i1, l], ∃ o, h.get? b = some o := fun b hb => by
  obtain ⟨⟨o1, e1, _⟩, ⟨o2, e2, _⟩⟩ := st
  rcases (List.mem_cons).mp hb with rfl | hb
  · exact ⟨o1, e1⟩
  · rw [List.mem_singleton.mp hb]; exact ⟨o2, e2⟩
theorem tup_there {i1 l : Addr} {items : Array Value} (i : Nat) (h : Heap) (st : h.IsTupleIter i1 l i ∧ h.IsTuple l items) : ∀ b ∈ [i1, l], ∃ o, h.get? b = some o := fun b hb => by
  obtain ⟨⟨o1, e1, _⟩, ⟨o2, e2, _⟩⟩ := st
  rcases (List.mem_cons).mp hb with rfl | hb
  · exact ⟨o1, e1⟩
  · rw [List.mem_singleton.mp hb]; exact ⟨o2, e2⟩
def kvZ {α : Type} (ns : List Int) (ys : List α) : List (Key × α) := List.zipWith (fun n y => (Sum.inl n, y)) ns ys
theorem kvZ_len {α : Type} (ns : List Int) (ys : List α) : (kvZ ns ys).length = min ns.length ys.length := List.length_zipWith
theorem kvZ_kv : ∀ {ns : List Int} {ys : List V} {us : List Value}, Vals ys us → KV (kvZ ns ys) (kvZ ns us)
  | [], _, _, _ => .nil
  | _ :: _, _, _, .nil => .nil
  | _ :: _, _, _, .cons h t => .cons ⟨rfl, h⟩ (kvZ_kv t)
theorem kvZ_get {α : Type} {ns : List Int} {ys : List α} {i : Nat} {n : Int} {y : α} (h1 : ns[i]? = some n) (h2 : ys[i]? = some y) : (kvZ ns ys)[i]? = some (Sum.inl n, y) := by
  unfold kvZ
  rw [List.getElem?_zipWith, h1, h2]
theorem ints_at : ∀ {ns : List Int} {us : List Value} {i : Nat} {u : Value}, Vals (ns.map V.int) us → us[i]? = some u → ∃ n t, ns[i]? = some n ∧ u = .int n t
  | [], _, _, _, r, e => by
    rw [List.map_nil] at r
    cases r
    simp at e
  | n :: ns, _, i, u, r, e => by
    rw [List.map_cons] at r
    cases r with
    | cons h t =>
      cases i with
      | zero =>
        obtain ⟨tk, rfl⟩ := (show ∃ t, _ = Value.int n t from h)
        obtain rfl := Option.some.inj (show some _ = some u from e)
        exact ⟨n, tk, rfl, rfl⟩
      | succ i =>
        obtain ⟨m, tk, e1, e2⟩ := ints_at (ns := ns) (i := i) (u := u) t (by simpa using e)
        exact ⟨m, tk, by simpa using e1, e2⟩
def tDictZip (K : PySem.W.Frag) (ta : TA) : TE := fun σ H R => ta σ H fun vs H1 => ∃ (a b : Addr) (ns : List Int) (ys : List V), vs = [.ref a, .ref b] ∧ SqL K H1 a (ns.map V.int) ∧ SqT K H1 b ys ∧ ∀ p, H1 p = none → R (.ref p) (upd H1 p (.dK (mergeK [] (kvZ ns ys))))
theorem pe_dictZip {X : Cx} {K : PySem.W.Frag} {e e2 : Expr} {ta : TA} {p p2 q pos : Pos} (hK : X.K = K) (hc : X.calm = true) (hg : Gl X "dict") (hm : X.mg "dict" = none) (hg2 : Gl X "zip") (hm2 : X.mg "zip" = none) (ha : PA X [e, e2] ta)
    (na : starEach [.Call (.Name "zip" p2) [e, e2] [] q] X.env = (false, eval (.Call (.Name "zip" p2) [e, e2] [] q) X.env) :: starEach [] X.env := by rfl)
    (first : starEach [e, e2] X.env = (false, eval e X.env) :: starEach [e2] X.env := by rfl) (rest : (backTo q (starEach [e2] X.env)).any (·.1) = false := by rfl) :
    PE X (.Call (.Name "dict" p) [.Call (.Name "zip" p2) [e, e2] [] q] [] pos) (tDictZip K ta) := by
  subst hK
  refine ⟨fun pins s σ H R I h => ?_⟩
  refine Call_ (ld_blt I hg hm PyProof.Rows.boot_dict (PyProof.Rows.callWith_type1 (PyProof.Rows.args_cons ?_ rfl) na rfl))
  refine Call_ (ld_blt I hg2 hm2 PyProof.Rows.boot_zip (PyProof.Rows.callWith_type1 (thn (ha.run q pins s σ H _ I h) ?_) first rest))
  rintro us s1 ⟨_, H1, I1, rr, a, b, ns, ys, rfl, qa, qb, r⟩
  obtain ⟨us1, ru, pu, z1⟩ := I1.list qa
  obtain ⟨us2, rw', pw, z2⟩ := I1.tuple qb
  have la : a < s1.heap.objs.size := by
    obtain ⟨_, g, _⟩ := pu.isList
    exact Heap.lt_size g
  have lb : b < s1.heap.objs.size := by
    obtain ⟨_, g, _⟩ := id pw
    exact Heap.lt_size g
  match us, rr with
  | [_, _], .cons rfl (.cons rfl .nil) =>
    refine zip_begins2 (begins_list a us1.toArray) (begins_tuple b us2.toArray) pu.isList pw fun h1 gz gi go g1 g2 sz far => ?_
    have J1 := I1.kept (t' := s1.toks) far
    have hh : X.A.handled = none := I1.ok.hd hc
    refine (PyProof.Rows.args_nil ?_)
    have S2 := zip_sep2 (N := s1.heap.objs.size) (fp1 := [a]) (fp2 := [b]) (fun x hx => List.mem_singleton.mp hx ▸ la) fun x hx => List.mem_singleton.mp hx ▸ lb
    have ok1 : h1.IsListIter s1.heap.objs.size a 0 ∧ h1.IsList a us1.toArray := ⟨⟨_, g1, rfl, rfl⟩, pu.isList.at fun o e => far _ o e⟩
    have ok2 : h1.IsTupleIter (s1.heap.objs.size + 1) b 0 ∧ h1.IsTuple b us2.toArray := ⟨⟨_, g2, rfl, rfl⟩, Heap.IsTuple.at pw fun o e => far _ o e⟩
    have na' : a ≠ s1.heap.objs.size := Nat.ne_of_lt la
    have nb' : b ≠ s1.heap.objs.size + 1 := Nat.ne_of_lt (Nat.lt_succ_of_lt lb)
    have su : us1.toArray.size = ns.length := by rw [List.size_toArray, ← ru.length, List.length_map]
    have sw : us2.toArray.size = ys.length := by rw [List.size_toArray, rw'.length]
    have P := zip_arg (prog := X.prog) (w := X.w) S2 (fun A hA => Draws.list hA s1.heap.objs.size a na' us1.toArray) (fun A hA => Draws.tuple hA (s1.heap.objs.size + 1) b nb' us2.toArray)
      (fun i h h' st hk => ⟨st.1.at fun o e => hk _ (by simp) o e, st.2.at fun o e => hk _ (by simp) o e⟩) (fun i h h' st hk => ⟨st.1.at fun o e => hk _ (by simp) o e, st.2.at fun o e => hk _ (by simp) o e⟩) list_there tup_there
    have lz : (kvZ ns us2).length = min us1.toArray.size us2.toArray.size := by rw [kvZ_len, su, List.size_toArray]
    rw [List.length_map] at z1
    have lm : min us1.toArray.size us2.toArray.size ≤ sizeLine := Nat.le_trans (Nat.min_le_left ..) (su ▸ z1)
    refine PySem.call_dict_pairs (knd := mixKind X.prog X.w) (kvs := kvZ ns us2) P hh ⟨gz, gi, ⟨_, _, go⟩, ok1, ok2⟩ ⟨lz, fun i key v rel => ?_⟩ lm fun h' tk hd' hk => ?_
    · obtain ⟨e1, e2⟩ := rel
      obtain ⟨n, t, hn, rfl⟩ := ints_at ru (show us1[i]? = some key by simpa using e1)
      exact ⟨Sum.inl n, kvZ_get hn (by simpa using e2), keyIs_int n t⟩
    · have far2 : ∀ b o, s1.heap.get? b = some o → h'.get? b = some o := fun b o e => hk b o (fun hb => by
        have lt : (b : Nat) < s1.heap.objs.size := Heap.lt_size e
        simp only [List.mem_cons, or_false, List.not_mem_nil] at hb
        have hb : (b : Nat) = s1.heap.objs.size + 4 ∨ (b : Nat) = s1.heap.objs.size + 3 ∨ (b : Nat) = s1.heap.objs.size ∨ (b : Nat) = s1.heap.objs.size + 1 := hb
        exact four_apart lt hb) (far b o e)
      have big : s1.heap.objs.size ≤ h1.objs.size := by omega
      have hm : (h1.objs.size == sysModules) = false := beq_eq_false_iff_ne.mpr (Nat.ne_of_gt (Nat.lt_of_lt_of_le I1.big big))
      have hlen : (mergeK [] (kvZ ns ys)).length ≤ sizeLine := by
        refine Nat.le_trans (length_mergeK _ []) ?_
        rw [List.length_nil, Nat.zero_add, kvZ_len]
        exact Nat.le_trans (Nat.min_le_left ..) z1
      have hfresh : H1 h1.objs.size = none := I1.hok.fresh big
      exact ⟨.ref h1.objs.size, upd H1 h1.objs.size (.dK (mergeK [] (kvZ ns ys))), I1.laid (t' := tk) far2 big (show ObjOk X.prog X.w _ _ _ (.dK (mergeK [] (kvZ ns ys))) from ⟨hlen, hm, merged [] (kvZ ns us2), KV.merge (kvZ_kv rw') .nil, hd'⟩), rfl, r _ hfresh⟩
theorem mergeK_new : ∀ {more acc : List (Key × V)}, (acc.map (·.1) ++ more.map (·.1)).Nodup → mergeK acc more = acc ++ more
  | [], acc, _ => by rw [List.append_nil]; rfl
  | p :: more, acc, h => by
    have hn : p.1 ∉ acc.map (·.1) := fun hm => by
      rw [List.map_cons] at h
      exact (List.nodup_append.mp h).2.2 _ hm _ (.head _) rfl
    have e : putK acc p.1 p.2 = acc ++ [p] := by
      have : (acc.any fun kv => decide (kv.1 = p.1)) = false := by
        rw [List.any_eq_false]
        intro x hx
        rw [decide_eq_true_eq]
        exact fun z => hn (List.mem_map.mpr ⟨x, hx, z⟩)
      unfold putK
      rw [this]
      rfl
    show mergeK (putK acc p.1 p.2) more = _
    rw [e, mergeK_new (by rw [List.map_append, List.append_assoc]; exact h), List.append_assoc]
    rfl
theorem kvZ_keys {α : Type} : ∀ (ns : List Int) (ys : List α), ∀ k ∈ (kvZ ns ys).map (·.1), ∃ n ∈ ns, k = Sum.inl n
  | [], _, _, h => by simp [kvZ] at h
  | _ :: _, [], _, h => by simp [kvZ] at h
  | n :: ns, y :: ys, k, h => by
    rcases (List.mem_cons).mp h with rfl | h
    · exact ⟨n, .head _, rfl⟩
    · obtain ⟨m, hm, e⟩ := kvZ_keys ns ys k h
      exact ⟨m, .tail _ hm, e⟩
theorem kvZ_nd {α : Type} : ∀ {ns : List Int} (ys : List α), ns.Nodup → ((kvZ ns ys).map (·.1)).Nodup
  | [], _, _ => List.nodup_nil
  | _ :: _, [], _ => List.nodup_nil
  | n :: ns, y :: ys, h => by
    obtain ⟨h1, h2⟩ := (List.nodup_cons).mp h
    refine List.nodup_cons.mpr ⟨fun hm => ?_, kvZ_nd ys h2⟩
    obtain ⟨m, hm, e⟩ := kvZ_keys ns ys _ hm
    exact h1 (Sum.inl.inj e ▸ hm)
theorem kvZ_ints : ∀ (ns ms : List Int), kvZ ns (ms.map V.int) = (ns.zip ms).map iK
  | [], _ => rfl
  | _ :: _, [] => rfl
  | n :: ns, m :: ms => by
    show _ :: kvZ ns (ms.map V.int) = _
    rw [kvZ_ints ns ms]
    rfl
theorem e_dictZip {K : PySem.W.Frag} {σ : L2.St} {F : Hp} {ta tb : TE} {ns ms : List Int} (ha : EvD ta σ F (.list (ns.map .int))) (hb : EvD tb σ F (tD ms)) (nd : ns.Nodup) :
    EvD (tDictZip K (tCons ta (tCons tb tNil))) σ F (.dict ((ns.zip ms).map iD)) := fun S H1 f s R r =>
  ha S H1 f s _ fun v H2 s2 rv => hb S H2 (f.mono s2) (s.trans (offS_mono s2)) _ fun u H3 s3 ru => by
    obtain ⟨a, xs, rfl, ea, rx⟩ := rp_lst rv
    obtain ⟨b, ys, rfl, eb, ry⟩ := rp_tup ru
    rw [ints_rp rx] at ea
    rw [rpT_ints ry] at eb
    refine ⟨a, b, ns, _, rfl, .inl (.inl (s3 _ _ ea)), .inl (.inl eb), fun p hp => ?_⟩
    have e : mergeK [] (kvZ ns (ms.map V.int)) = (ns.zip ms).map iK := by
      rw [mergeK_new (by rw [List.map_nil, List.nil_append]; exact kvZ_nd _ nd), kvZ_ints]
      rfl
    rw [e]
    have sn := same_new (o := .dK ((ns.zip ms).map iK)) hp
    exact r _ _ ((s2.trans s3).trans sn) (.dic (offS_new (f.mono (s2.trans s3)) hp))
theorem e_dIn {σ : L2.St} {F : Hp} {td ty : TE} {ns : List (Int × Int)} {k : Int} (hk : EvD ty σ F (.int k)) (h : EvD td σ F (.dict (ns.map iD))) : EvD (tDIn ty td) σ F (.bool (valI ns k).isSome) := fun S H1 f s Q q =>
  hk S H1 f s _ fun y H2 s2 ry => h S H2 (f.mono s2) (s.trans (offS_mono s2)) _ fun x H3 s3 r => by
    obtain ⟨a, rfl, ha⟩ := rp_dic r
    cases ry
    have g := DGet.k (k := Sum.inl k) (offS_same _ _ ha)
    rw [val_iK] at g
    refine ⟨a, _, rfl, g, ?_⟩
    rw [Option.isSome_map]
    exact q _ H3 (s2.trans s3) (.bl _)
end Q

set_option maxHeartbeats 1000000
namespace Q
open PySem PySem.Spec PyProof.Rows L2 Ca TQ
/-! ### renamings turned around and put behind one another -/
theorem val_zip : ∀ (ns σ : List Int) (x : Int), x ∈ ns → valI (ns.zip σ) x = σ[ns.idxOf x]?
  | n :: ns, [], x, _ => by simp [valI]
  | n :: ns, s :: σ, x, h => by
    rw [List.zip_cons_cons, List.idxOf_cons]
    unfold valI
    by_cases e : n = x
    · rw [List.find?_cons_of_pos (by simp [e])]
      simp [e]
    · rw [List.find?_cons_of_neg (by simp [e])]
      have ih := val_zip ns σ x ((List.mem_cons.mp h).resolve_left fun z => e z.symm)
      unfold valI at ih
      rw [ih]
      have : (n == x) = false := by simpa using e
      rw [this]
      rfl
structure Ren (as bs : List At) (g : Int → Int) : Prop where
  inj : ∀ x ∈ nms as, ∀ y ∈ nms as, g x = g y → x = y
  pm : (as.map (rnm g)).Perm bs
theorem rnm_map {as : List At} {g k : Int → Int} (h : ∀ x ∈ nms as, g x = k x) : as.map (rnm g) = as.map (rnm k) := List.map_congr_left fun a ha => by
  unfold rnm
  rw [h _ (sd_mem.mpr (vl_in ha)), h _ (sd_mem.mpr (vr_in ha))]
theorem rnm_two (as : List At) (g k : Int → Int) : (as.map (rnm g)).map (rnm k) = as.map (rnm fun x => k (g x)) := by
  rw [List.map_map]
  rfl
theorem rnm_id {as : List At} {g : Int → Int} (h : ∀ x ∈ nms as, g x = x) : as.map (rnm g) = as := by
  rw [rnm_map (k := id) h]
  exact (List.map_congr_left fun a _ => by cases a; rfl).trans (List.map_id as)
theorem Ren.img {as bs : List At} {g : Int → Int} (r : Ren as bs g) (x : Int) : x ∈ nms bs ↔ ∃ y ∈ nms as, g y = x := by
  constructor
  · intro h
    obtain ⟨b, hb, e⟩ := mem_vars.mp (sd_mem.mp h)
    obtain ⟨a, ha, rfl⟩ := (List.mem_map).mp (r.pm.mem_iff.mpr hb)
    rcases e with e | e
    · exact ⟨a.l, sd_mem.mpr (vl_in ha), e.symm⟩
    · exact ⟨a.r, sd_mem.mpr (vr_in ha), e.symm⟩
  · rintro ⟨y, hy, rfl⟩
    obtain ⟨a, ha, e⟩ := mem_vars.mp (sd_mem.mp hy)
    have hb := r.pm.mem_iff.mp (List.mem_map.mpr ⟨a, ha, rfl⟩)
    rcases e with e | e
    · rw [e]; exact sd_mem.mpr (vl_in hb)
    · rw [e]; exact sd_mem.mpr (vr_in hb)
theorem nd_map {l : List Int} {g : Int → Int} (nd : l.Nodup) (h : ∀ x ∈ l, ∀ y ∈ l, g x = g y → x = y) : (l.map g).Nodup := by
  rw [List.Nodup, List.pairwise_map]
  exact nd.imp_of_mem fun {a b} ha hb ne e => ne (h a ha b hb e)
theorem ren_in {as bs : List At} {g : Int → Int} (gb : ∀ b ∈ bs, Good b) (r : Ren as bs g) : (nms as).map g ∈ rens as bs := by
  refine (mem_rens gb).mpr ⟨⟨by rw [List.length_map], ?_⟩, nd_map (nms_nd as) r.inj⟩
  rw [rnm_map (k := g) fun x hx => apl_map hx]
  exact r.pm
theorem in_ren {as bs : List At} {σ : List Int} (gb : ∀ b ∈ bs, Good b) (h : σ ∈ rens as bs) : ∃ g, Ren as bs g ∧ σ = (nms as).map g := by
  obtain ⟨⟨hl, hp⟩, nd⟩ := (mem_rens gb).mp h
  have e := map_apl (nms_nd as) hl
  refine ⟨apl (nms as) σ, ⟨fun x hx y hy z => ?_, hp⟩, e.symm⟩
  have lx := List.idxOf_lt_length_of_mem hx
  have ly := List.idxOf_lt_length_of_mem hy
  unfold apl at z
  rw [List.getD_eq_getElem?_getD, List.getD_eq_getElem?_getD, List.getElem?_eq_getElem (by omega), List.getElem?_eq_getElem (by omega)] at z
  have i := (List.getElem_inj nd).mp z
  rw [← List.getElem_idxOf lx, ← List.getElem_idxOf ly]
  congr 1
/-- the way back -/
theorem Ren.back {as bs : List At} {g : Int → Int} (r : Ren as bs g) : ∃ h, Ren bs as h ∧ ∀ y ∈ nms as, h (g y) = y := by
  let h : Int → Int := fun x => ((nms as).find? fun y => decide (g y = x)).getD 0
  have hg : ∀ y ∈ nms as, h (g y) = y := fun y hy => by
    show ((nms as).find? fun z => decide (g z = g y)).getD 0 = y
    cases e : (nms as).find? fun z => decide (g z = g y) with
    | none => exact absurd (decide_eq_true rfl) (List.find?_eq_none.mp e y hy)
    | some z =>
      have h1 := List.find?_some e
      have h2 := List.mem_of_find?_eq_some e
      exact r.inj z h2 y hy (of_decide_eq_true h1)
  refine ⟨h, ⟨fun x hx y hy e => ?_, ?_⟩, hg⟩
  · obtain ⟨x', hx', rfl⟩ := (r.img x).mp hx
    obtain ⟨y', hy', rfl⟩ := (r.img y).mp hy
    rw [hg _ hx', hg _ hy'] at e
    rw [e]
  · refine (r.pm.symm.map _).trans ?_
    rw [rnm_two, rnm_id hg]
theorem Ren.then {as bs cs : List At} {g k : Int → Int} (r : Ren as bs g) (q : Ren bs cs k) : Ren as cs fun x => k (g x) := by
  refine ⟨fun x hx y hy e => r.inj x hx y hy (q.inj _ ((r.img _).mpr ⟨x, hx, rfl⟩) _ ((r.img _).mpr ⟨y, hy, rfl⟩) e), ?_⟩
  rw [← rnm_two]
  exact (r.pm.map _).trans q.pm
def lkp (ns σ : List Int) (x : Int) : Int := (valI (ns.zip σ) x).getD 0
def backT (as bs : List At) (σ : List Int) : List Int := (nms bs).map (lkp σ (nms as))
def behT (bs : List At) (σ τ : List Int) : List Int := σ.map (lkp (nms bs) τ)
theorem lkp_map {ns : List Int} {g : Int → Int} {x : Int} (h : x ∈ ns) : lkp ns (ns.map g) x = g x := by
  unfold lkp
  have lt := List.idxOf_lt_length_of_mem h
  rw [val_zip _ _ _ h, List.getElem?_map, List.getElem?_eq_getElem lt, List.getElem_idxOf]
  rfl
theorem lkp_back {as : List At} {g : Int → Int} (inj : ∀ x ∈ nms as, ∀ y ∈ nms as, g x = g y → x = y) {y : Int} (h : y ∈ nms as) : lkp ((nms as).map g) (nms as) (g y) = y := by
  unfold lkp
  have lt := List.idxOf_lt_length_of_mem h
  have e : ((nms as).map g).idxOf (g y) = (nms as).idxOf y := by
    have nd := nd_map (nms_nd as) inj
    have z := nd.idxOf_getElem ((nms as).idxOf y) (by rw [List.length_map]; exact lt)
    rw [List.getElem_map, List.getElem_idxOf] at z
    exact z
  rw [val_zip _ _ _ (List.mem_map.mpr ⟨y, h, rfl⟩), e, List.getElem?_eq_getElem lt, List.getElem_idxOf]
  rfl
theorem back_eq {as bs : List At} {g h : Int → Int} (r : Ren as bs g) (hg : ∀ y ∈ nms as, h (g y) = y) : backT as bs ((nms as).map g) = (nms bs).map h := by
  refine List.map_congr_left fun x hx => ?_
  obtain ⟨y, hy, rfl⟩ := (r.img x).mp hx
  rw [lkp_back r.inj hy, hg y hy]
theorem beh_eq {as bs cs : List At} {g k : Int → Int} (r : Ren as bs g) : behT bs ((nms as).map g) ((nms bs).map k) = (nms as).map fun x => k (g x) := by
  unfold behT
  rw [List.map_map]
  exact List.map_congr_left fun x hx => lkp_map ((r.img _).mpr ⟨x, hx, rfl⟩)
theorem map_nms {as : List At} {g k : Int → Int} (h : ∀ x ∈ nms as, g x = k x) : (nms as).map g = (nms as).map k := List.map_congr_left h
theorem rens_nd (as bs : List At) : (rens as bs).Nodup := (rens_up as bs).imp fun {a b} h e => by rw [e] at h; omega
theorem perm_of {α : Type} {f : List Int → List Int} {l m : List (List Int)} (nl : l.Nodup) (nm : m.Nodup) (inj : ∀ x ∈ l, ∀ y ∈ l, f x = f y → x = y) (h : ∀ x ∈ l, f x ∈ m) (s : ∀ y ∈ m, ∃ x ∈ l, f x = y) : (l.map f).Perm m := by
  refine (List.perm_ext_iff_of_nodup ?_ nm).mpr fun y => ⟨fun z => ?_, fun z => ?_⟩
  · rw [List.Nodup, List.pairwise_map]
    exact nl.imp_of_mem fun {a b} ha hb ne e => ne (inj a ha b hb e)
  · obtain ⟨x, hx, rfl⟩ := (List.mem_map).mp z
    exact h x hx
  · obtain ⟨x, hx, e⟩ := s y z
    exact List.mem_map.mpr ⟨x, hx, e⟩
section
variable {as bs cs : List At} (ga : ∀ b ∈ as, Good b) (gb : ∀ b ∈ bs, Good b) (gc : ∀ b ∈ cs, Good b)
include ga gb in
theorem back_perm : ((rens as bs).map (backT as bs)).Perm (rens bs as) := by
  have two : ∀ {as bs : List At} {g : Int → Int}, Ren as bs g → backT bs as (backT as bs ((nms as).map g)) = (nms as).map g := fun {as bs g} r => by
    obtain ⟨h, q, hg⟩ := r.back
    rw [back_eq r hg]
    refine back_eq q fun x hx => ?_
    obtain ⟨y, hy, rfl⟩ := (r.img x).mp hx
    rw [hg y hy]
  have to : ∀ {as bs : List At}, (∀ b ∈ as, Good b) → (∀ b ∈ bs, Good b) → ∀ σ ∈ rens as bs, backT as bs σ ∈ rens bs as ∧ backT bs as (backT as bs σ) = σ := fun ga gb σ hσ => by
    obtain ⟨g, r, rfl⟩ := in_ren gb hσ
    refine ⟨?_, two r⟩
    obtain ⟨h, q, hg⟩ := r.back
    rw [back_eq r hg]
    exact ren_in ga q
  exact perm_of (α := Int) (rens_nd _ _) (rens_nd _ _) (fun x hx y hy e => by rw [← (to ga gb x hx).2, ← (to ga gb y hy).2, e]) (fun x hx => (to ga gb x hx).1) fun y hy => ⟨_, (to gb ga y hy).1, (to gb ga y hy).2⟩
include gb gc in
theorem beh_perm {σ : List Int} (hσ : σ ∈ rens as bs) : ((rens bs cs).map (behT bs σ)).Perm (rens as cs) := by
  obtain ⟨g, r, rfl⟩ := in_ren gb hσ
  refine perm_of (α := Int) (rens_nd _ _) (rens_nd _ _) (fun x hx y hy e => ?_) (fun x hx => ?_) fun ρ hρ => ?_
  · obtain ⟨k, q, rfl⟩ := in_ren gc hx
    obtain ⟨l, p, rfl⟩ := in_ren gc hy
    rw [beh_eq (cs := cs) r, beh_eq (cs := cs) r] at e
    refine map_nms fun x hx => ?_
    obtain ⟨y, hy, rfl⟩ := (r.img x).mp hx
    exact List.map_inj_left.mp e y hy
  · obtain ⟨k, q, rfl⟩ := in_ren gc hx
    rw [beh_eq (cs := cs) r]
    exact ren_in gc (r.then q)
  · obtain ⟨p, t, rfl⟩ := in_ren gc hρ
    obtain ⟨h, q, hg⟩ := r.back
    refine ⟨_, ren_in gc (q.then t), ?_⟩
    rw [beh_eq (cs := cs) r]
    exact map_nms fun x hx => by rw [hg x hx]
include ga gb in
theorem len_back : (rens as bs).length = (rens bs as).length := by
  have := (back_perm ga gb).length_eq
  rwa [List.length_map] at this
include gb gc in
theorem len_beh (h : rens as bs ≠ []) : (rens bs cs).length = (rens as cs).length := by
  obtain ⟨σ, l, e⟩ := List.exists_cons_of_ne_nil h
  have := (beh_perm gb gc (by rw [e]; exact .head _ : σ ∈ rens as bs)).length_eq
  rwa [List.length_map] at this
include ga gb in
theorem len_self (h : rens as bs ≠ []) : (rens as bs).length = (rens as as).length := (len_back ga gb).trans (len_beh gb ga h)
end
theorem self_in {as : List At} (ga : ∀ b ∈ as, Good b) : nms as ∈ rens as as := (mem_rens ga).mpr ⟨cov_self as, nms_nd as⟩
end Q

set_option maxHeartbeats 4000000
namespace Ca
open PySem PySem.Spec PyProof.Rows L2
/-- data that are short when shown -/
structure Fit (d : PyData) (k n : Nat) : Prop where
  sh : d.showable = true
  dp : d.depth ≤ k
  ln : d.shown.length ≤ n
theorem Fit.mono {d : PyData} {k n k' n' : Nat} (h : Fit d k n) (hk : k ≤ k') (hn : n ≤ n') : Fit d k' n' := ⟨h.sh, Nat.le_trans h.dp hk, Nat.le_trans h.ln hn⟩
theorem fit_none : Fit .none 0 10 := ⟨by simp [PyData.showable], by simp [PyData.depth], by simp only [PyData.shown]; decide +kernel⟩
theorem fit_bool (b : Bool) : Fit (.bool b) 0 10 := ⟨by simp [PyData.showable], by simp [PyData.depth], by simp only [PyData.shown]; cases b <;> decide +kernel⟩
theorem fit_int {i : Int} (h : i.natAbs < 10 ^ 14) : Fit (.int i) 0 20 := by
  refine ⟨?_, by simp [PyData.depth], ?_⟩
  · have h1 : i.natAbs.log2 < 1920 := by
      by_cases z : i.natAbs = 0
      · rw [z]
        decide
      · rw [Nat.log2_lt z]
        exact Nat.lt_of_lt_of_le h (by decide +kernel)
    simpa [PyData.showable] using h1
  · have h2 := int_text_length_le10 (a := i) (k := 14) (by decide) h
    simp only [PyData.shown]
    show (PySem.Str.ofString (toString i)).length ≤ 20
    rw [PySem.ofString_length]
    omega
theorem fit_str {x : PySem.Str} {m : Nat} (hx : ∀ c ∈ x.cps.toList, c < 16 ^ 8) (hl : x.length ≤ m) : Fit (.str x) 0 (10 * m + 2) := by
  refine ⟨by simp [PyData.showable], by simp [PyData.depth], ?_⟩
  have := StrLaws.reprText_len x hx
  simp only [PyData.shown]
  omega
theorem all_sh : ∀ {ds : List PyData} {k n : Nat}, (∀ d ∈ ds, Fit d k n) → PyData.showableAll ds = true ∧ PyData.depthAll ds ≤ k ∧ ((PyData.shownAll ds).map (·.length)).sum ≤ ds.length * n
  | [], _, _, _ => by simp [PyData.showableAll, PyData.depthAll, PyData.shownAll]
  | d :: ds, k, n, h => by
    obtain ⟨h1, h2, h3⟩ := all_sh (ds := ds) fun e he => h e (.tail _ he)
    have f := h d (.head _)
    refine ⟨by simp [PyData.showableAll, f.sh, h1], ?_, ?_⟩
    · simp only [PyData.depthAll]
      have := f.dp
      omega
    · simp only [PyData.shownAll, List.map_cons, List.sum_cons, List.length_cons]
      have := f.ln
      rw [Nat.add_mul]
      omega
theorem shownAll_len (ds : List PyData) : (PyData.shownAll ds).length = ds.length := by
  rw [shownAll_eq_map, List.length_map]
theorem fit_list {ds : List PyData} {k n m : Nat} (h : ∀ d ∈ ds, Fit d k n) (hl : ds.length ≤ m) : Fit (.list ds) (k + 1) (m * (n + 2) + 3) := by
  obtain ⟨h1, h2, h3⟩ := all_sh h
  refine ⟨by simpa [PyData.showable] using h1, by simp only [PyData.depth]; omega, ?_⟩
  simp only [PyData.shown]
  have h4 := listText_len_le (PyData.shownAll ds)
  rw [shownAll_len] at h4
  have h5 : ds.length * (n + 2) ≤ m * (n + 2) := Nat.mul_le_mul_right _ hl
  rw [Nat.mul_add] at h5
  omega
theorem fit_tuple {ds : List PyData} {k n m : Nat} (h : ∀ d ∈ ds, Fit d k n) (hl : ds.length ≤ m) : Fit (.tuple ds) (k + 1) (m * (n + 2) + 3) := by
  obtain ⟨h1, h2, h3⟩ := all_sh h
  refine ⟨by simpa [PyData.showable] using h1, by simp only [PyData.depth]; omega, ?_⟩
  simp only [PyData.shown]
  have h4 := tupleText_len_le (PyData.shownAll ds)
  rw [shownAll_len] at h4
  have h5 : ds.length * (n + 2) ≤ m * (n + 2) := Nat.mul_le_mul_right _ hl
  rw [Nat.mul_add] at h5
  omega
theorem fit_dict0 : Fit (.dict []) 1 10 := ⟨by simp [PyData.showable, PyData.showableKv], by simp [PyData.depth, PyData.depthKv], by simp only [PyData.shown, PyData.shownKv]; decide +kernel⟩
end Ca
namespace Q
open PySem PySem.Spec PyProof.Rows L2 Ca
def Ascii (x : PySem.Str) : Prop := ∀ c ∈ x.cps.toList, c < 16 ^ 8
theorem kind_is {k : PySem.Str} (h : kindOk k = true) : k = "A" ∨ k = "B" ∨ k = "C" := by
  unfold kindOk inV at h
  rw [List.any_eq_true] at h
  obtain ⟨y, hy, e⟩ := h
  rcases List.mem_cons.mp hy with z | hy
  · subst z
    exact .inl (by simpa [eqV] using (Eq.symm (by simpa [eqV] using e)))
  · rcases List.mem_cons.mp hy with z | hy
    · subst z
      exact .inr (.inl (by simpa [eqV] using (Eq.symm (by simpa [eqV] using e))))
    · rcases List.mem_cons.mp hy with z | hy
      · subst z
        exact .inr (.inr (by simpa [eqV] using (Eq.symm (by simpa [eqV] using e))))
      · cases hy
theorem ascii_ofs {x : PySem.Str} (h : x.cps.toList.all (fun c => decide (c < 16 ^ 8)) = true) : Ascii x := fun c hc => of_decide_eq_true (List.all_eq_true.mp h c hc)
theorem ascii_kind {k : PySem.Str} (h : kindOk k = true) : Ascii k := by
  rcases kind_is h with z | z | z <;> subst z <;> exact ascii_ofs (by decide +kernel)
theorem ascii_dig {i : Int} (h0 : 0 ≤ i) (h9 : i ≤ 9) : Ascii (PySem.Str.ofString (toString i)) := by
  obtain ⟨n, rfl⟩ := Int.eq_ofNat_of_zero_le h0
  have h : ∀ n : Nat, n < 10 → (PySem.Str.ofString (toString ((n : Nat) : Int))).cps.toList.all (fun c => decide (c < 16 ^ 8)) = true := by decide +kernel
  exact ascii_ofs (h n (by omega))
theorem ascii_app {x y : PySem.Str} (hx : Ascii x) (hy : Ascii y) : Ascii (x ++ y) := fun c hc => by
  have e : (x ++ y).cps.toList = x.cps.toList ++ y.cps.toList := TL.tl_append x y
  rw [e] at hc
  rcases List.mem_append.mp hc with z | z
  · exact hx c z
  · exact hy c z
theorem ascii_atT {a : At} (g : Good a) : Ascii (atT a) := ascii_app (ascii_app (ascii_kind g.k) (ascii_dig g.l0 g.l9)) (ascii_dig g.r0 g.r9)
theorem ascii_join {s : PySem.Str} (hs : Ascii s) : ∀ {l : List PySem.Str}, (∀ x ∈ l, Ascii x) → Ascii (PySem.Str.join s l)
  | [], _ => fun c hc => by
    have e : (PySem.Str.join s []).cps.toList = [] := TL.tl_join s []
    rw [e] at hc
    cases hc
  | [x], h => fun c hc => by
    have e : (PySem.Str.join s [x]).cps.toList = x.cps.toList := TL.tl_join s [x]
    rw [e] at hc
    exact h x (.head _) c hc
  | x :: y :: r, h => by
    have e : PySem.Str.join s (x :: y :: r) = x ++ s ++ PySem.Str.join s (y :: r) := rfl
    rw [e]
    exact ascii_app (ascii_app (h x (.head _)) hs) (ascii_join hs fun z hz => h z (.tail _ hz))
theorem ascii_txt {as : List At} (h : ∀ a ∈ as, Good a) : Ascii (txt as) := by
  unfold txt
  rw [TL.join_eq]
  refine ascii_join (s := " ") (ascii_ofs (by decide +kernel)) fun x hx => ?_
  obtain ⟨a, ha, rfl⟩ := List.mem_map.mp hx
  exact ascii_atT (h a ha)
theorem txt_len {as : List At} (h : ∀ a ∈ as, Good a) : (txt as).length ≤ 4 * as.length := by
  have z := StrLaws.join_length_le " " (as.map atT)
  rw [sum_len h, List.length_map] at z
  have e1 : (PySem.Str.ofString " ").length = 1 := by decide +kernel
  rw [e1] at z
  unfold txt
  rw [TL.join_eq]
  omega
theorem fit_at {a : At} (g : Good a) : Fit (atD a) 1 100 := by
  refine (fit_tuple (k := 0) (n := 20) (m := 3) (fun d hd => ?_) (Nat.le_refl _)).mono (Nat.le_refl _) (by omega)
  have := g.l0
  have := g.l9
  have := g.r0
  have := g.r9
  rcases List.mem_cons.mp hd with z | hd
  · subst z
    exact (fit_str (ascii_kind g.k) (Nat.le_of_eq (kind_len g.k))).mono (Nat.le_refl _) (by omega)
  · rcases List.mem_cons.mp hd with z | hd
    · subst z
      exact fit_int (by omega)
    · rcases List.mem_cons.mp hd with z | hd
      · subst z
        exact fit_int (by omega)
      · cases hd
end Q

set_option maxHeartbeats 4000000
namespace Q
open PySem PySem.Spec PyProof.Rows L2 Ca
/-! ### texts that can be compared -/
def Low (x : PySem.Str) : Prop := ∀ c ∈ x.cps.toList, c < 0x110000
theorem low_ofs {x : PySem.Str} (h : x.cps.toList.all (fun c => decide (c < 0x110000)) = true) : Low x := fun c hc => of_decide_eq_true (List.all_eq_true.mp h c hc)
theorem low_kind {k : PySem.Str} (h : kindOk k = true) : Low k := by
  rcases kind_is h with z | z | z <;> subst z <;> exact low_ofs (by decide +kernel)
theorem low_dig {i : Int} (h0 : 0 ≤ i) (h9 : i ≤ 9) : Low (PySem.Str.ofString (toString i)) := by
  obtain ⟨n, rfl⟩ := Int.eq_ofNat_of_zero_le h0
  have h : ∀ n : Nat, n < 10 → (PySem.Str.ofString (toString ((n : Nat) : Int))).cps.toList.all (fun c => decide (c < 0x110000)) = true := by decide +kernel
  exact low_ofs (h n (by omega))
theorem low_app {x y : PySem.Str} (hx : Low x) (hy : Low y) : Low (x ++ y) := fun c hc => by
  have e : (x ++ y).cps.toList = x.cps.toList ++ y.cps.toList := TL.tl_append x y
  rw [e] at hc
  rcases List.mem_append.mp hc with z | z
  · exact hx c z
  · exact hy c z
theorem low_atT {a : At} (g : Good a) : Low (atT a) := low_app (low_app (low_kind g.k) (low_dig g.l0 g.l9)) (low_dig g.r0 g.r9)
theorem low_join {s : PySem.Str} (hs : Low s) : ∀ {l : List PySem.Str}, (∀ x ∈ l, Low x) → Low (PySem.Str.join s l)
  | [], _ => fun c hc => by
    have e : (PySem.Str.join s []).cps.toList = [] := TL.tl_join s []
    rw [e] at hc
    cases hc
  | [x], h => fun c hc => by
    have e : (PySem.Str.join s [x]).cps.toList = x.cps.toList := TL.tl_join s [x]
    rw [e] at hc
    exact h x (.head _) c hc
  | x :: y :: r, h => by
    have e : PySem.Str.join s (x :: y :: r) = x ++ s ++ PySem.Str.join s (y :: r) := rfl
    rw [e]
    exact low_app (low_app (h x (.head _)) hs) (low_join hs fun z hz => h z (.tail _ hz))
theorem low_txt {as : List At} (h : ∀ a ∈ as, Good a) : Low (txt as) := by
  unfold txt
  rw [TL.join_eq]
  refine low_join (s := " ") (low_ofs (by decide +kernel)) fun x hx => ?_
  obtain ⟨a, ha, rfl⟩ := List.mem_map.mp hx
  exact low_atT (h a ha)
theorem cq_low {k : Nat} {x : PySem.Str} (h : Low x) : Cq k (.str x) := by
  have hk : PyData.strOk x = true := by
    unfold PyData.strOk
    rw [← Array.all_toList]
    exact List.all_eq_true.mpr fun c hc => decide_eq_true (h c hc)
  exact ⟨by simp [nd], by simp [PyData.canLay0, hk], by simp [PyData.depth]⟩
section
variable {K : PySem.W.Frag} {σ : L2.St} {F : Hp} {ta te t1 t2 : TE} {C N : Addr} {as : List At} {E : XK} {P1 P2 : Hp → V → Prop}
theorem e_cmeth (hC : EvP ta σ F fun _ v => v = .ref C) (h : EvD te σ F (.str (txt as))) (g : ∀ a ∈ as, Good a) (l1 : 1 ≤ as.length) (l4 : as.length ≤ 4) : EvP (ClX.tCMeth C (spQ (IRead C)) E ta (tCons te tNil)) σ F (QV C as) := fun S H1 f s Q q =>
  hC S H1 f s _ fun v H2 s2 e => ⟨e, h S H2 (f.mono s2) (s.trans (offS_mono s2)) _ fun v H3 s3 r => by
    cases r
    exact ⟨S, QV C as, f.mono (s2.trans s3), ⟨as, rfl, g, l1, l4, rfl⟩, fun v H4 s4 p => q v H4 ((s2.trans s3).trans s4) p⟩⟩
/-- a pair of things, given out to two names -/
theorem go_asgP2 {K : PySem.W.Frag} {S : Addr → Bool} {H : Hp} {D : L2.Ends} {u : TS} {i j : Nat} (f : Fr S H) (h1 : EvP t1 σ (offS S H) P1) (h2 : EvP t2 σ (offS S H) P2) (m1 : ∀ F F' v, Same F F' → P1 F v → P1 F' v) (m2 : ∀ F F' v, Same F F' → P2 F v → P2 F' v)
    (k : ∀ v w H', Same H H' → Fr S H' → P1 (offS S H') v → P2 (offS S H') w → u D ((σ.set i (some v)).set j (some w)) H') : tSeq (tAsg (tTup (tCons t1 (tCons t2 tNil))) (gTup K 2 (gCons (gName i) (gCons (gName j) gNil)))) u D σ H :=
  h1 S H f (Same.refl _) _ fun v H2 s2 p1 => h2 S H2 (f.mono s2) (offS_mono s2) _ fun w H3 s3 p2 => ⟨show 2 ≤ sizeLine by decide, fun p hp => by
    have sn := same_new (o := .tup [v, w]) hp
    have st := (s2.trans s3).trans sn
    exact ⟨p, [v, w], rfl, .inl (.inl upd_same), rfl, _, _, rfl, _, _, rfl, rfl, k v w _ st (f.mono st) (m1 _ _ _ (offS_mono (s3.trans sn)) p1) (m2 _ _ _ (offS_mono sn) p2)⟩⟩
theorem e_repr {d : PyData} {n : Nat} (h : EvD ta σ F d) (ft : Fit d 60 n) (big : n ≤ sizeLine) : EvD (tCB rRepr (tCons ta tNil)) σ F (.str d.shown) := e_cb (a_cons h a_nil) fun S H vs f r Q q => by
  obtain ⟨v, rfl, r1⟩ := rpa1 r
  exact ⟨v, d, rfl, r1.mono offS_same, ft.sh, ft.dp, Nat.le_trans ft.ln big, q _ H (Same.refl _) (.str _)⟩
end
theorem fit_ints {l : List Int} (h : ∀ x ∈ l, 0 ≤ x ∧ x ≤ 9) (hl : l.length ≤ 8) : Fit (tD l) 1 179 := fit_tuple (k := 0) (n := 20) (m := 8) (fun d hd => by
  obtain ⟨x, hx, rfl⟩ := List.mem_map.mp hd
  have := h x hx
  exact fit_int (by omega)) (by rw [List.length_map]; exact hl)
theorem fit_rens {as bs : List At} (gb : ∀ b ∈ bs, Good b) (h1 : as.length ≤ 4) (h2 : bs.length ≤ 4) : Fit (renD as bs) 2 4347 := fit_list (k := 1) (n := 179) (m := 24) (fun d hd => by
  obtain ⟨k, hk, rfl⟩ := List.mem_map.mp hd
  obtain ⟨hc, _⟩ := (mem_rens gb).mp hk
  refine fit_ints (fun x hx => ?_) (by rw [hc.1]; exact Nat.le_trans (nms_len as) (by omega))
  have := cov_bd gb hc x hx
  omega) (by rw [List.length_map]; exact rens_len h1 h2 gb)
end Q

set_option maxHeartbeats 4000000
namespace Ca
open PySem PySem.Spec PyProof.Rows L2
theorem e_notInD {K : PySem.W.Frag} {σ : L2.St} {F : Hp} {ta tb : TE} {d : PyData} {ds : List PyData} (ha : EvD ta σ F d) (hb : EvD tb σ F (.list ds)) (h1 : eqOk d = true) (h2 : eqOk (.list ds) = true) : EvD (tOp (rNotInD K) ta tb) σ F (.bool (!ds.any fun z => PyData.eqv z d)) := e_op ha hb fun S H x y f rx ry Q q => by
  unfold eqOk at h1 h2
  rw [Bool.and_eq_true] at h1 h2
  exact ⟨d, ds, Rp.dp h1.1 (rx.mono offS_same), Rp.dp h2.1 (ry.mono offS_same), h1.2, h2.2, q _ H (Same.refl _) (.bl _)⟩
end Ca
namespace Q
open PySem PySem.Spec PyProof.Rows L2 Ca TQ
/-! ### lists of tuples of ints -/
abbrev refP (p : Addr × List Int) : V := .ref p.1
theorem ks_of {H : Hp} : ∀ {l : List (List Int)} {xs : List V}, RpA H xs (l.map tD) → ∃ ks : List (Addr × List Int), xs = ks.map refP ∧ ks.map (·.2) = l ∧ ∀ p ∈ ks, H p.1 = some (.tup (p.2.map V.int))
  | [], _, .nil => ⟨[], rfl, rfl, fun p h => by cases h⟩
  | k :: l, _, .cons (.tup ht r1) r => by
    obtain ⟨ks, e1, e2, h⟩ := ks_of r
    rw [rpT_ints r1] at ht
    exact ⟨(_, k) :: ks, by rw [List.map_cons, e1], by rw [List.map_cons, e2], fun p hp => (List.mem_cons.mp hp).elim (fun e => e ▸ ht) (h p)⟩
theorem rp_ks {H : Hp} : ∀ {ks : List (Addr × List Int)}, (∀ p ∈ ks, H p.1 = some (.tup (p.2.map V.int))) → RpA H (ks.map refP) ((ks.map (·.2)).map tD)
  | [], _ => .nil
  | p :: ks, h => .cons (.tup (h p (.head _)) (ints_rpT _)) (rp_ks fun q hq => h q (.tail _ hq))
section
variable {P : Program} {w : World} {K : PySem.W.Frag} {σ : L2.St} {F : Hp} {ta tb : TE} {l m : List (List Int)} {n : Nat}
/-- sorted(xs) -/
theorem e_sortT (h : EvD ta σ F (.list (l.map tD))) (hz : l.length < 64) (hd : ∀ k ∈ l, k.length = n ∧ TS.Bd 10 k) (pm : l.Perm m) (up : m.Pairwise fun a b => TS.code 10 a < TS.code 10 b) : EvD (tCB (rSortU K n 10) (tCons ta tNil)) σ F (.list (m.map tD)) := fun S H1 f s Q q =>
  h S H1 f s _ fun v H2 s2 r => by
    obtain ⟨a, xs, rfl, ea, rx⟩ := rp_lst r
    obtain ⟨ks, rfl, rfl, hk⟩ := ks_of rx
    have f2 := f.mono s2
    have hk2 : ∀ p ∈ ks, H2 p.1 = some (.tup (p.2.map V.int)) := fun p hp => offS_same _ _ (hk p hp)
    rw [List.length_map] at hz
    refine ⟨a, ks.map refP, rfl, .inl (.inl ea), by rw [List.length_map]; exact hz, fun x hx => ?_, fun ys p py pw hp => ?_⟩
    · obtain ⟨p, hp, rfl⟩ := (List.mem_map).mp hx
      have := hd _ (List.mem_map.mpr ⟨p, hp, rfl⟩)
      exact ⟨p.2, ⟨p.1, rfl, .inl (.inl (hk2 p hp))⟩, this.1, this.2⟩
    · obtain ⟨js, pj, rfl⟩ := L2.perm_lift refP py ks rfl
      have ho : ∀ p ∈ js, offS S H2 p.1 = some (.tup (p.2.map V.int)) := fun p hp => hk p (pj.mem_iff.mp hp)
      have e : js.map (·.2) = m := by
        have pm2 : (js.map (·.2)).Perm m := (pj.map (·.2)).trans pm
        have ndm : m.Nodup := up.imp fun {a b} h e => by rw [e] at h; omega
        rw [List.pairwise_map] at pw
        refine srt_one (n := n) ?_ (pm2.nodup_iff.mpr ndm) (fun k hk => hd k ((pj.map (·.2)).mem_iff.mp hk)) up fun k => pm2.mem_iff
        rw [List.pairwise_map]
        exact pw.imp_of_mem fun {x y} hx hy z => z _ _ ⟨x.1, rfl, .inl (.inl (offS_same _ _ (ho x hx)))⟩ ⟨y.1, rfl, .inl (.inl (offS_same _ _ (ho y hy)))⟩
      have sn := same_new (o := .lst (js.map refP)) hp
      refine q _ _ (s2.trans sn) (.lst (by rw [offS_at (f2.new hp), upd_same]) ?_)
      rw [← e]
      exact (rp_ks ho).mono (offS_mono sn)
/-- sorted(set(xs)) -/
theorem e_sortSetT (h : EvD ta σ F (.list (l.map tD))) (hz : l.length < 64) (n1 : 1 ≤ n) (hd : ∀ k ∈ l, k.length = n ∧ TS.Bd 10 k) (up : m.Pairwise fun a b => TS.code 10 a < TS.code 10 b) (hm : ∀ k, k ∈ l ↔ k ∈ m) :
    EvD (tCB (rSortedT K P w) (tCons (tCB (rSetOfT K P w) (tCons ta tNil)) tNil)) σ F (.list (m.map tD)) := fun S H1 f s Q q =>
  h S H1 f s _ fun v H2 s2 r => by
    obtain ⟨a, xs, rfl, ea, rx⟩ := rp_lst r
    obtain ⟨ks, rfl, rfl, hk⟩ := ks_of rx
    have f2 := f.mono s2
    have hk2 : ∀ p ∈ ks, H2 p.1 = some (.tup (p.2.map V.int)) := fun p hp => offS_same _ _ (hk p hp)
    rw [List.length_map] at hz
    refine ⟨a, ks, rfl, .inl (.inl ea), fun p hp => .inl (.inl (hk2 p hp)), hz, fun D L hD hL1 hL2 => ?_⟩
    have s3 := same_new (o := SetTO P w D L) hD
    have f3 := f2.mono s3
    have mem : ∀ k, k ∈ L.map (·.2) ↔ k ∈ ks.map (·.2) := fun k => ⟨fun z => by
      obtain ⟨p, hp, rfl⟩ := (List.mem_map).mp z
      exact List.mem_map.mpr ⟨p, hL1 p hp, rfl⟩, fun z => by
      obtain ⟨p, hp, rfl⟩ := (List.mem_map).mp z
      exact hL2 p hp⟩
    refine ⟨D, L, n, 10, rfl, upd_same, fun p hp => .inl (.inl (s3 _ _ (hk2 p (hL1 p hp)))), n1, fun p hp => hd _ (List.mem_map.mpr ⟨p, hL1 p hp, rfl⟩), fun L' p pm nd _ pw hp => ?_⟩
    have e : L'.map (·.2) = m := srt_one (n := n) (by rw [List.pairwise_map]; exact pw) nd (fun k hk => hd k ((mem k).mp ((pm.map (·.2)).mem_iff.mp hk))) up fun k => by rw [(pm.map (·.2)).mem_iff, mem, hm]
    have sn := same_new (o := .lst (L'.map refP)) hp
    refine q _ _ ((s2.trans s3).trans sn) (.lst (by rw [offS_at (f3.new hp), upd_same]) ?_)
    rw [← e]
    exact (rp_ks fun p hp => hk p (hL1 p (pm.mem_iff.mp hp))).mono (offS_mono (s3.trans sn))
theorem tD_eqv (a b : List Int) : PyData.eqv (tD a) (tD b) = decide (a = b) := by
  have all : ∀ a b : List Int, PyData.eqvAll (a.map PyData.int) (b.map PyData.int) = decide (a = b) := fun a => by
    induction a with
    | nil => intro b; cases b <;> simp [PyData.eqvAll]
    | cons x a ih =>
      intro b
      cases b with
      | nil => simp [PyData.eqvAll]
      | cons y b =>
        rw [List.map_cons, List.map_cons]
        show (PyData.eqv (.int x) (.int y) && PyData.eqvAll (a.map .int) (b.map .int)) = _
        rw [ih b, Bool.eq_iff_iff, Bool.and_eq_true, decide_eq_true_eq, decide_eq_true_eq, List.cons.injEq]
        simp [PyData.eqv]
  rw [← all a b]
  rfl
theorem tDs_eqv : ∀ a b : List (List Int), PyData.eqv (.list (a.map tD)) (.list (b.map tD)) = decide (a = b) := by
  have all : ∀ a b : List (List Int), PyData.eqvAll (a.map tD) (b.map tD) = decide (a = b) := fun a => by
    induction a with
    | nil => intro b; cases b <;> simp [PyData.eqvAll]
    | cons x a ih =>
      intro b
      cases b with
      | nil => simp [PyData.eqvAll]
      | cons y b =>
        rw [List.map_cons, List.map_cons]
        show (PyData.eqv (tD x) (tD y) && PyData.eqvAll (a.map tD) (b.map tD)) = _
        rw [tD_eqv, ih b, Bool.eq_iff_iff, Bool.and_eq_true, decide_eq_true_eq, decide_eq_true_eq, decide_eq_true_eq, List.cons.injEq]
  intro a b
  rw [← all a b]
  rfl
theorem cq_tD (k : List Int) : Cq 1 (tD k) := cq_tup fun d hd => by
  obtain ⟨x, _, rfl⟩ := (List.mem_map).mp hd
  exact ⟨by simp [nd], by simp [PyData.canLay0], by simp [PyData.depth]⟩
theorem cq_tDs (l : List (List Int)) : Cq 2 (.list (l.map tD)) := cq_lst fun d hd => by
  obtain ⟨x, _, rfl⟩ := (List.mem_map).mp hd
  exact cq_tD x
theorem e_notInT {k : List Int} (ha : EvD ta σ F (tD k)) (hb : EvD tb σ F (.list (l.map tD))) : EvD (tOp (rNotInD K) ta tb) σ F (.bool (!l.contains k)) := eqD (e_notInD ha hb (cq_tD k).ok (cq_tDs l).ok) (by
  congr 2
  rw [List.any_map, Bool.eq_iff_iff, List.any_eq_true, List.contains_iff_mem]
  constructor
  · rintro ⟨z, hz, e⟩
    rw [Function.comp, tD_eqv, decide_eq_true_eq] at e
    exact e ▸ hz
  · exact fun h => ⟨k, h, by rw [Function.comp, tD_eqv, decide_eq_true_eq]⟩)
end
end Q

set_option maxHeartbeats 400000
namespace Q
open PySem PySem.Spec PyProof.Rows L2 Ca
theorem u1 {n : Nat} (h : n + 64 < cLine) : n + 1 < cLine := by omega
theorem roD_inj : ∀ {as bs : List Ro}, as.map roD = bs.map roD → as = bs
  | [], [], _ => rfl
  | [], b :: bs, h => by cases h
  | a :: as, [], h => by cases h
  | ⟨k, l, r, n⟩ :: as, ⟨k', l', r', n'⟩ :: bs, h => by
    rw [List.map_cons, List.map_cons] at h
    injection h with h1 h2
    unfold roD at h1
    injection h1 with h1
    injection h1 with h3 h1
    injection h1 with h4 h1
    injection h1 with h5 h1
    injection h1 with h6 h1
    cases h3
    cases h4
    cases h5
    cases h6
    rw [roD_inj h2]
section
variable {P : Program} {w : World} {K : PySem.W.Frag} {mg : PySem.Str → Option Value} {base : Heap}
theorem ok_rowsT {f : Addr} {fd : FuncData} (F : FnP K "are_rows" s_are_rows f fd) (T : Tx K mg) (gM : ∃ t, mg "MOST_ROWS" = some (.int 12 t)) (D1 : Fd P w K mg base "is_row" 4 ["thing"] (spR RRow)) : FnOk P w K mg base CX0 5 f fd ["things"] (spR RRowsT) := by
  obtain ⟨f1, fd1, G1, b1, k1, m1⟩ := D1.ex
  obtain ⟨t, gM⟩ := gM
  refine F.ok sc_rows (spR_len (by rintro _ _ ⟨x, b, rfl, _⟩; rfl)) (fun cdv A outer s H vs Q E hr h => ?_)
  obtain ⟨S, ds, d, fr, rA, ⟨es, b, rfl, hz, rfl, hb⟩, q⟩ := h
  obtain ⟨v0, rfl, r0⟩ := rpa1 rA
  refine ⟨_, PSs.nox (pss_cons (ps_if (PW.pt (pw_or (pt_cmpR op_gt (pe_callB (call_lenQ : CallR _ _ (rLenQ K)) (by rfl) T.len bLen (pa_cons (pv 0) pa_nil)) (pe_glob (v := .int 12) rfl gM ⟨t, rfl⟩) (nomark _))
      (pw_or1 (pt_not (pt_val (pe_callB (cr_all rfl : CallR _ _ (rAll K)) (by rfl) T.all bAll (pa_cons (pe_lc (own := [("thing", 1)]) (g := gName 1) rfl sc_rows.nd (pi_tupQ (K := K) rfl (pv 0)) (blkOk_by (own := [("thing", 1)]) (N := ["things", "thing", "row"]) (sc := defScope s_are_rows) (by decide +kernel))
        (fun _ _ _ _ _ => pg_name (i := 1) sc_rows.nd rfl (Or.inl rfl)) (fun _ _ _ _ _ => pts_nil) (fun _ _ _ _ _ => pe_call G1 (hr.mono (by decide)) rfl m1 k1 b1 .nil pass0 (pa_cons (pv 1) pa_nil))) pa_nil))))))) (pss_one (ps_ret pe_bl)) pss_nil)
    (pss_one (ps_ret (pe_cmpR op_eq (pe_callB TM.cr_lenBag (by rfl) T.len bLen (pa_cons (TM.pe_sc1 (own := [("row", 2)]) (g := gName 2) (u1 hr.units) rfl sc_rows.nd (pi_tupQ (K := K) rfl (pv 0)) (blkOk_by (own := [("row", 2)]) (N := ["things", "thing", "row"]) (sc := defScope s_are_rows) (by decide +kernel))
        (fun _ _ _ _ _ => pg_name (i := 2) sc_rows.nd rfl (Or.inl rfl)) (fun _ _ _ _ _ => pts_nil) (fun _ _ _ _ _ => pe_slice (sl_tupA : SlR _ (rSlA K)) (pv 2) po_none (po_some pe_int))) pa_nil)) (pe_callB (call_lenQ : CallR _ _ (rLenQ K)) (by rfl) T.len bLen (pa_cons (pv 0) pa_nil)) (nomark _))))), ?_⟩
  have isB : ∀ d ∈ (es.filter fun _ => true).map (fun d => PyData.bool (isRow d)), ∃ b, d = .bool b := fun d hd => by
    obtain ⟨e, _, rfl⟩ := List.mem_map.mp hd
    exact ⟨_, rfl⟩
  have eall : ((es.filter fun _ => true).map fun d => PyData.bool (isRow d)).all truD = es.all isRow := by
    rw [filter_yes, List.all_map]
    rfl
  refine go_ifS fr (b := decide ((es.length : Int) > 12) || !es.all isRow) (b_or (b_test (e_cmp (g := fun i j => decide (i > j)) (e_lenT (e_var rfl r0)) e_glI)) fun _ => by
    have := b_not (b_val (e_all (K := K) (e_lcT (K := K) (σ := start ["things", "thing", "row"] [v0]) (g := gName 1) (tt := tYes) (te := tCall (spR RRow) [] E0 (tCons (tVar 1) tNil)) (vs := [1]) (enc := id) (as := es) (b := fun _ => true) (ev := fun d => PyData.bool (isRow d)) (by rw [List.map_id]; exact e_var (i := 0) rfl r0) (Nat.le_trans hz (by decide)) fun d hd x F2 sF r => g_name ⟨rfl, b_yes, fun _ => e_call (a_cons (e_var (i := 1) rfl r) a_nil) ⟨d, rfl, rfl⟩⟩) isB))
    rw [eall] at this
    exact this) (fun z H1 s1 f1 => ?_) fun z H1 s1 fr1 => ?_
  · have e : b = false := by
      cases b with
      | false => rfl
      | true =>
        obtain ⟨l12, rs, rfl, g, _⟩ := hb.mp rfl
        have a1 : decide (((rs.map roD).length : Int) > 12) = false := decide_eq_false (by omega)
        have a2 : (rs.map roD).all isRow = true := List.all_eq_true.mpr fun d hd => by
          obtain ⟨a, ha, rfl⟩ := List.mem_map.mp hd
          exact isRow_of (g a ha)
        rw [a1, a2] at z
        cases z
    subst e
    exact q _ _ s1 (.bl _)
  · rw [Bool.or_eq_false_iff] at z
    have l12 : es.length ≤ 12 := by
      have := of_decide_eq_false z.1
      omega
    obtain ⟨rs, rfl, g⟩ := rows_of (ds := es) (by simpa using z.2)
    rw [List.length_map] at l12
    have r1 := r0.mono (offS_mono (S := S) s1)
    refine go_ret (P := fun H v => Rp H v (.bool b)) fr1 (eqD (e_eqI (TM.e_lenSc (P := P) (w := w) (enc := roD) (as := rs) (ev := roK) (it_tup (e_var rfl r1)) (by omega) fun a ha x F2 sF r => g_name ⟨rfl, b_yes, fun _ => eqD (e_slT (e_var rfl r) o_none (o_some e_int)) rfl⟩) (e_lenT (e_var rfl r1))) ?_) fun v H2 s2 r2 => q v H2 (s1.trans s2) r2
    congr 1
    have oc := (TM.once_len (rs.map roK)).2
    rw [List.length_map] at oc
    rw [List.length_map]
    rw [Bool.eq_iff_iff, decide_eq_true_eq, hb]
    constructor
    · intro e
      exact ⟨by rw [List.length_map]; exact l12, rs, rfl, g, oc.mp (by omega)⟩
    · rintro ⟨_, rs', e, _, nd⟩
      have er : rs' = rs := roD_inj e.symm
      subst er
      have := oc.mpr nd
      omega
theorem ok_rowsL {f : Addr} {fd : FuncData} (F : FnP K "are_rows" s_are_rows f fd) (T : Tx K mg) (gM : ∃ t, mg "MOST_ROWS" = some (.int 12 t)) (D1 : Fd P w K mg base "is_row" 4 ["thing"] (spR RRow)) : FnOk P w K mg base CX0 5 f fd ["things"] (spR RRowsL) := by
  obtain ⟨f1, fd1, G1, b1, k1, m1⟩ := D1.ex
  obtain ⟨t, gM⟩ := gM
  refine F.ok sc_rows (spR_len (by rintro _ _ ⟨x, b, rfl, _⟩; rfl)) (fun cdv A outer s H vs Q E hr h => ?_)
  obtain ⟨S, ds, d, fr, rA, ⟨es, b, rfl, hz, rfl, hb⟩, q⟩ := h
  obtain ⟨v0, rfl, r0⟩ := rpa1 rA
  refine ⟨_, PSs.nox (pss_cons (ps_if (PW.pt (pw_or (pt_cmpR op_gt (pe_callB (call_lenQ : CallR _ _ (rLenQ K)) (by rfl) T.len bLen (pa_cons (pv 0) pa_nil)) (pe_glob (v := .int 12) rfl gM ⟨t, rfl⟩) (nomark _))
      (pw_or1 (pt_not (pt_val (pe_callB (cr_all rfl : CallR _ _ (rAll K)) (by rfl) T.all bAll (pa_cons (pe_lc (own := [("thing", 1)]) (g := gName 1) rfl sc_rows.nd (pi_listQ (K := K) rfl (pv 0)) (blkOk_by (own := [("thing", 1)]) (N := ["things", "thing", "row"]) (sc := defScope s_are_rows) (by decide +kernel))
        (fun _ _ _ _ _ => pg_name (i := 1) sc_rows.nd rfl (Or.inl rfl)) (fun _ _ _ _ _ => pts_nil) (fun _ _ _ _ _ => pe_call G1 (hr.mono (by decide)) rfl m1 k1 b1 .nil pass0 (pa_cons (pv 1) pa_nil))) pa_nil))))))) (pss_one (ps_ret pe_bl)) pss_nil)
    (pss_one (ps_ret (pe_cmpR op_eq (pe_callB TM.cr_lenBag (by rfl) T.len bLen (pa_cons (TM.pe_sc1 (own := [("row", 2)]) (g := gName 2) (u1 hr.units) rfl sc_rows.nd (pi_listQ (K := K) rfl (pv 0)) (blkOk_by (own := [("row", 2)]) (N := ["things", "thing", "row"]) (sc := defScope s_are_rows) (by decide +kernel))
        (fun _ _ _ _ _ => pg_name (i := 2) sc_rows.nd rfl (Or.inl rfl)) (fun _ _ _ _ _ => pts_nil) (fun _ _ _ _ _ => pe_slice (sl_tupA : SlR _ (rSlA K)) (pv 2) po_none (po_some pe_int))) pa_nil)) (pe_callB (call_lenQ : CallR _ _ (rLenQ K)) (by rfl) T.len bLen (pa_cons (pv 0) pa_nil)) (nomark _))))), ?_⟩
  have isB : ∀ d ∈ (es.filter fun _ => true).map (fun d => PyData.bool (isRow d)), ∃ b, d = .bool b := fun d hd => by
    obtain ⟨e, _, rfl⟩ := List.mem_map.mp hd
    exact ⟨_, rfl⟩
  have eall : ((es.filter fun _ => true).map fun d => PyData.bool (isRow d)).all truD = es.all isRow := by
    rw [filter_yes, List.all_map]
    rfl
  refine go_ifS fr (b := decide ((es.length : Int) > 12) || !es.all isRow) (b_or (b_test (e_cmp (g := fun i j => decide (i > j)) (e_lenL (e_var rfl r0)) e_glI)) fun _ => by
    have := b_not (b_val (e_all (K := K) (e_lcL (K := K) (σ := start ["things", "thing", "row"] [v0]) (g := gName 1) (tt := tYes) (te := tCall (spR RRow) [] E0 (tCons (tVar 1) tNil)) (vs := [1]) (enc := id) (as := es) (b := fun _ => true) (ev := fun d => PyData.bool (isRow d)) (by rw [List.map_id]; exact e_var (i := 0) rfl r0) (Nat.le_trans hz (by decide)) fun d hd x F2 sF r => g_name ⟨rfl, b_yes, fun _ => e_call (a_cons (e_var (i := 1) rfl r) a_nil) ⟨d, rfl, rfl⟩⟩) isB))
    rw [eall] at this
    exact this) (fun z H1 s1 f1 => ?_) fun z H1 s1 fr1 => ?_
  · have e : b = false := by
      cases b with
      | false => rfl
      | true =>
        obtain ⟨l12, rs, rfl, g, _⟩ := hb.mp rfl
        have a1 : decide (((rs.map roD).length : Int) > 12) = false := decide_eq_false (by omega)
        have a2 : (rs.map roD).all isRow = true := List.all_eq_true.mpr fun d hd => by
          obtain ⟨a, ha, rfl⟩ := List.mem_map.mp hd
          exact isRow_of (g a ha)
        rw [a1, a2] at z
        cases z
    subst e
    exact q _ _ s1 (.bl _)
  · rw [Bool.or_eq_false_iff] at z
    have l12 : es.length ≤ 12 := by
      have := of_decide_eq_false z.1
      omega
    obtain ⟨rs, rfl, g⟩ := rows_of (ds := es) (by simpa using z.2)
    rw [List.length_map] at l12
    have r1 := r0.mono (offS_mono (S := S) s1)
    refine go_ret (P := fun H v => Rp H v (.bool b)) fr1 (eqD (e_eqI (TM.e_lenSc (P := P) (w := w) (enc := roD) (as := rs) (ev := roK) (it_list (e_var rfl r1)) (by omega) fun a ha x F2 sF r => g_name ⟨rfl, b_yes, fun _ => eqD (e_slT (e_var rfl r) o_none (o_some e_int)) rfl⟩) (e_lenL (e_var rfl r1))) ?_) fun v H2 s2 r2 => q v H2 (s1.trans s2) r2
    congr 1
    have oc := (TM.once_len (rs.map roK)).2
    rw [List.length_map] at oc
    rw [List.length_map]
    rw [Bool.eq_iff_iff, decide_eq_true_eq, hb]
    constructor
    · intro e
      exact ⟨by rw [List.length_map]; exact l12, rs, rfl, g, oc.mp (by omega)⟩
    · rintro ⟨_, rs', e, _, nd⟩
      have er : rs' = rs := roD_inj e.symm
      subst er
      have := oc.mpr nd
      omega
end
end Q

set_option maxHeartbeats 400000
namespace Q
open PySem PySem.Spec PyProof.Rows L2 Ca
/-! ### what is read through tuples alone stays where tuples stay -/
def onlyT (H : Hp) : Hp := fun a => match H a with
  | some (.tup xs) => some (.tup xs)
  | _ => none
theorem onlyT_same {H : Hp} : Same (onlyT H) H := fun b o e => by
  unfold onlyT at e
  split at e
  · rename_i xs h
    rw [h]
    exact e
  · cases e
def KT (H H' : Hp) : Prop := ∀ t ys, H t = some (.tup ys) → H' t = some (.tup ys)
theorem KT.trans {H H1 H2 : Hp} (a : KT H H1) (b : KT H1 H2) : KT H H2 := fun t ys e => b t ys (a t ys e)
theorem KT.of {H H' : Hp} (h : Same H H') : KT H H' := fun t ys e => h _ _ e
theorem KT.m {H H' : Hp} (k : KT H H') : Same (onlyT H) (onlyT H') := fun b o e => by
  unfold onlyT at e
  split at e
  · rename_i xs h
    have h2 := k b xs h
    unfold onlyT
    rw [h2]
    exact e
  · cases e

theorem ro_T {H : Hp} {a : Ro} {v : V} (r : Rp H v (roD a)) : Rp (onlyT H) v (roD a) := by
  cases r with
  | @tup t xs _ h q =>
    have e : xs = [.str a.k, .int a.l, .int a.r, .int a.n] := by
      cases q with
      | cons h1 q =>
        cases h1
        cases q with
        | cons h1 q =>
          cases h1
          cases q with
          | cons h1 q =>
            cases h1
            cases q with
            | cons h1 q =>
              cases h1
              cases q
              rfl
    subst e
    exact .tup (by unfold onlyT; rw [h]) (.cons (.str _) (.cons (.int _) (.cons (.int _) (.cons (.int _) .nil))))
theorem ros_T {H : Hp} : ∀ {rs : List Ro} {xs : List V}, RpA H xs (rs.map roD) → RpA (onlyT H) xs (rs.map roD)
  | [], _, .nil => .nil
  | _ :: _, _, .cons h q => .cons (ro_T h) (ros_T q)
section
variable {K : PySem.W.Frag} {σ : L2.St} {F : Hp} {ta : TE} {ds : List PyData}
theorem e_sortDT (h : EvD ta σ F (.tuple ds)) (hal : PySem.W.AllAlike ds) (hso : PySem.W.Sortable ds) (hdp : ∀ d ∈ ds, d.depth ≤ 60) (hl : ds.length ≤ 1000) : EvD (tCB rSortD (tCons ta tNil)) σ F (.list (srtD ds)) := fun S H1 f s Q q =>
  h S H1 f s _ fun v H2 s2 r => by
    cases r with
    | @tup a xs _ ha rx =>
      obtain ⟨bs, rfl, rfl, rb⟩ := zipV rx
      rw [List.length_map] at hl
      refine ⟨a, bs, rfl, .inr (offS_same _ _ ha), fun b hb => (rb b hb).mono offS_same, hal, hso, fun b hb => hdp _ (List.mem_map.mpr ⟨b, hb, rfl⟩), Nat.le_of_lt (small1000 hl), fun p hp => q _ _ (s2.trans (same_new hp)) (.lst (offS_new (f.mono s2) hp) ?_)⟩
      rw [← srt_snd]
      refine RpA.mono (offS_mono (same_new hp)) (unzipV fun b hb => rb b ?_)
      unfold sortD at hb
      exact (List.mem_mergeSort.mp hb)
end
theorem ro_alike (a b : Ro) : PySem.W.alike (roD a) (roD b) = true := by simp [roD, PySem.W.alike, PySem.W.alikeAll]
theorem ros_alike (rs : List Ro) : PySem.W.AllAlike (rs.map roD) := by
  intro x hx y hy
  obtain ⟨a, _, rfl⟩ := List.mem_map.mp hx
  obtain ⟨b, _, rfl⟩ := List.mem_map.mp hy
  exact ro_alike a b
theorem ros_sortable (rs : List Ro) : PySem.W.Sortable (rs.map roD) := .inl fun d hd => by
  obtain ⟨a, _, rfl⟩ := List.mem_map.mp hd
  exact ⟨_, _, rfl⟩
theorem ro_depth (a : Ro) : (roD a).depth ≤ 60 := by simp [roD, PyData.depth, PyData.depthAll]
/-- the rows ascending -/
theorem srt_rows (rs : List Ro) : ∃ ks : List Ro, srtD (rs.map roD) = ks.map roD ∧ ks.Perm rs := by
  have pm : (srtD (rs.map roD)).Perm (rs.map roD) := List.mergeSort_perm _ _
  have : ∀ {l m : List PyData}, l.Perm m → ∀ n : List Ro, m = n.map roD → ∃ o : List Ro, l = o.map roD ∧ o.Perm n := by
    intro l m hp
    induction hp with
    | nil =>
      intro n e
      exact ⟨[], rfl, by rw [List.map_eq_nil_iff.mp e.symm]⟩
    | cons x hp ih =>
      intro n e
      cases n with
      | nil => cases e
      | cons y n =>
        rw [List.map_cons] at e
        injection e with e1 e2
        obtain ⟨o, h1, h2⟩ := ih n e2
        exact ⟨y :: o, by rw [List.map_cons, ← h1, e1], h2.cons y⟩
    | swap x y l =>
      intro n e
      match n, e with
      | a :: b :: n, e =>
        rw [List.map_cons, List.map_cons] at e
        injection e with e1 e2
        injection e2 with e2 e3
        exact ⟨b :: a :: n, by rw [List.map_cons, List.map_cons, ← e1, ← e2, ← e3], List.Perm.swap a b n⟩
    | trans h1 h2 ih1 ih2 =>
      intro n e
      obtain ⟨o2, e2, p2⟩ := ih2 n e
      obtain ⟨o1, e1, p1⟩ := ih1 o2 e2
      exact ⟨o1, e1, p1.trans p2⟩
  exact this pm rs rfl
/-- what the top has written of the class Table (at C) and of NoRows (at N) -/
structure TT (K : PySem.W.Frag) (mg : PySem.Str → Option Value) (C N : Addr) : Prop where
  cl : Cls K C
  nK : NoAttr K C "kept"
  gN : mg "NoRows" = some (.ref N)
  xN : PySem.W.excIn K N [.type "ValueError", .type "Exception", .type "BaseException", .type "object"] "ValueError.__new__" = true
  kN : PySem.W.keepIn K (.ref N) = true
  bN : PySem.W.subIn K (.ref N) (.type "BaseException") = some true
  tN : PySem.W.typeIn K (.ref N) = some (.type "type")
abbrev cT : Stmt := top 31
abbrev s_tinit : Stmt := inClass cT 0
def tf (o : V) : List (PySem.Str × V) := putF "kept" o []
/-- a table with these rows -/
def TV (C : Addr) (ks : List Ro) (F : Hp) (v : V) : Prop := ∃ x dx o, v = .ref x ∧ F x = some (.ins C dx (tf (.ref o))) ∧ Rp (onlyT F) (.ref o) (.tuple (ks.map roD))
def spTInit (C N : Addr) : Sp := fun vs H Q E => ∃ (x dx p : Addr) (ds : List PyData) (b : Bool), vs = [.ref x, .ref p] ∧ H x = some (.ins C dx []) ∧ Rp H (.ref p) (.tuple ds) ∧ ds.length ≤ 1000 ∧ (b = true ↔ AreR ds) ∧
  (b = false → ∀ H', Same H H' → E (.ref N) none H') ∧
  (∀ rs ks : List Ro, ds = rs.map roD → AreR ds → srtD ds = ks.map roD → ks.Perm rs → ∀ H', (∀ b o, b ≠ x → H b = some o → H' b = some o) → TV C ks H' (.ref x) → Q .non H')
theorem sc_tinit : FnScope ["self", "rows"] ["self", "rows"] (defScope s_tinit) := ⟨rfl, rfl, rfl, by decide +kernel, rfl, by decide +kernel, by decide +kernel⟩
def spTInitR (C N : Addr) : Sp := fun vs H Q E => ∃ ws rest : List V, vs = ws ++ rest ∧ ws.length = ["self"].length ∧ rest.length ≤ sizeLine ∧ ∀ p, H p = none → spTInit C N (ws ++ [V.ref p]) (upd H p (.tup rest)) Q E
section
variable {P : Program} {w : World} {K : PySem.W.Frag} {mg : PySem.Str → Option Value} {base : Heap}
theorem ok_tinit {f C N : Addr} {fd : FuncData} (F : FnM K "__init__" "Table.__init__" s_tinit f fd) (T : Tx K mg) (TQ : TT K mg C N) (D1 : Fd P w K mg base "are_rows" 5 ["things"] (spR RRowsT)) : FnR P w K mg base (L2.CX P w) 6 f (spTInitR C N) := by
  obtain ⟨f1, fd1, G1, b1, k1, m1⟩ := D1.ex
  obtain ⟨oc, od, dV, kV', doc, pm, an, cdv, ct, osl, rfl, lk, hcd, hdfl, _⟩ := F.ex
  have ed : dV = .none := by
    rcases hdfl with ⟨_, e⟩ | ⟨h, _⟩
    · exact e
    · exact absurd rfl h
  subst ed
  refine StX.fn_star (ps := ["self"]) (pv := "rows") lk hcd sc_tinit StX.cxUp (StX.bind_star1 (p1 := "self") (pv := "rows") (B := fun us => bindArgs (PySem.W.fnOf "__init__" "Table.__init__" (defArgs s_tinit) (defBody s_tinit) (defScope s_tinit) .none kV' doc pm an cdv ct) ⟨us, []⟩) (fun a => by rfl) (fun a r rs => by rfl)) (fun A outer s H vs Q E hr h => ?_)
  obtain ⟨x, dx, p, ds, b, rfl, hx, rp, hz, hb, kE, kQ⟩ := h
  refine ⟨_, pss_cons (ps_if (pt_not (pt_val (pe_call G1 (hr.mono (by decide)) rfl m1 k1 b1 .nil pass0 (pa_cons (pv 1) pa_nil))))
      (pss_one (ps_raise rfl (takes_of rfl rfl rfl rfl) (pmk_own PySem.F.excBase_ValueError TQ.xN TQ.gN TQ.kN (raises_own TQ.bN TQ.tN) rfl))) pss_nil)
    (pss_one (ps_fld (pv 0) (pe_callTy (call_tupQ : CallR _ _ (rTupQ K)) (by rfl) T.tup bTup (pa_cons (pe_callB (cr_sortD T.sm hr) (by rfl) T.sorted bSorted (pa_cons (pv 1) pa_nil)) pa_nil)) rfl)), ?_⟩
  have fr0 : Fr (fun _ => false) H := fun a z => by cases z
  have off0 : ∀ {G : Hp}, Same G (offS (fun _ => false) G) := fun b o e => by
    rw [offS_at rfl]
    exact e
  have rp0 := rp.mono (off0 (G := H))
  refine go_ifS (b := !b) fr0 (b_not (b_val (e_call (a_cons (e_var (i := 1) rfl rp0) a_nil) ⟨ds, b, rfl, hz, rfl, hb⟩))) (fun z H1 s1 f1 => ?_) fun z H1 s1 fr1 => ?_
  · exact kE (by simpa using z) H1 s1
  · have bt : b = true := by simpa using z
    have hA := hb.mp bt
    obtain ⟨l12, rs, rfl, g, nd⟩ := hb.mp bt
    obtain ⟨ks, es, pks⟩ := srt_rows rs
    have rp1 := rp0.mono (offS_mono (S := fun _ => false) s1)
    refine (e_tupOf (K := K) (e_sortDT (e_var (i := 1) rfl rp1) (ros_alike rs) (ros_sortable rs) (fun d hd => ?_) (by omega))) (fun _ => false) H1 fr1 (Same.refl _) _ fun u H2 s2 r2 => ⟨_, rfl, x, C, dx, [], rfl, (s1.trans s2) _ _ hx, TQ.cl, TQ.nK, by decide, ?_⟩
    · obtain ⟨a, _, rfl⟩ := List.mem_map.mp hd
      exact ro_depth a
    · rw [es] at r2
      obtain ⟨o, xs, rfl, ho, rx⟩ := rp_tup r2
      have hx2 := (s1.trans s2) _ _ hx
      have kt : KT H2 (upd H2 x (.ins C dx (tf (.ref o)))) := fun t ys e => by
        rw [upd_ne (ne_of e hx2 (by intro z; cases z))]
        exact e
      refine kQ rs ks rfl hA es pks _ (fun c u hc e => ?_) ⟨x, dx, o, rfl, upd_same, .tup ?_ ((ros_T (rx.mono offS_same)).mono kt.m)⟩
      · rw [upd_ne hc]
        exact (s1.trans s2) _ _ e
      · have e := kt _ _ ho
        unfold tf at e
        unfold onlyT
        rw [e]
end
end Q

set_option maxHeartbeats 400000
namespace Ca
open PySem PySem.Spec PyProof.Rows L2
/-! f-strings -/
def tJoin (ts : List TE) : TE := fun σ H Q => tJs ts PySem.Str.empty σ H fun out H1 => Q (.str out) H1
theorem pe_joinedQ {X : Cx} {v1 v2 : Expr} {rest : List Expr} {ts : List TE} {pos : Pos} (h : PJ X (v1 :: v2 :: rest) ts) : PE X (.JoinedStr (v1 :: v2 :: rest) pos) (tJoin ts) := pe_joined h
section
variable {σ : L2.St} {F : Hp} {te : TE}
theorem e_fmtS {y : PySem.Str} (h : EvD te σ F (.str y)) (hl : y.length ≤ 1000) : EvD (tFmt te) σ F (.str y) := fun S H1 f s Q q => h S H1 f s _ fun v H2 s2 r => by
  cases r
  exact .inl ⟨y, rfl, Nat.le_of_lt (small1000 hl), q _ H2 s2 (.str _)⟩
theorem e_fmtI {i : Int} (h : EvD te σ F (.int i)) (hl : i.natAbs.log2 < 1920) : EvD (tFmt te) σ F (.str (PySem.Str.ofString (toString i))) := fun S H1 f s Q q => h S H1 f s _ fun v H2 s2 r => by
  cases r
  exact .inr ⟨i, rfl, hl, q _ H2 s2 (.str _)⟩
inductive EvJ (σ : L2.St) (F : Hp) : List TE → List PySem.Str → Prop where
  | nil : EvJ σ F [] []
  | cons {t : TE} {ts : List TE} {y : PySem.Str} {ys : List PySem.Str} (h : EvD t σ F (.str y)) (r : EvJ σ F ts ys) : EvJ σ F (t :: ts) (y :: ys)
def lens (ys : List PySem.Str) : Nat := (ys.map (·.length)).sum
theorem e_js {ts : List TE} {ys : List PySem.Str} (h : EvJ σ F ts ys) : ∀ (acc : PySem.Str), acc.length + lens ys ≤ 1000 → ∀ (S : Addr → Bool) (H1 : Hp), Fr S H1 → Same F (offS S H1) → ∀ Q : PySem.Str → Hp → Prop, (∀ H2, Same H1 H2 → Q (ys.foldl (· ++ ·) acc) H2) → tJs ts acc σ H1 Q := by
  induction h with
  | nil => exact fun acc _ S H1 f s Q q => q H1 (Same.refl _)
  | @cons t ts y ys h r ih =>
    intro acc hl S H1 f s Q q
    unfold lens at hl
    rw [List.map_cons, List.sum_cons] at hl
    have ly : (acc ++ y).length = acc.length + y.length := PySem.Str.length_append acc y
    refine h S H1 f s _ fun v H2 s2 r2 => ?_
    cases r2
    exact ⟨y, rfl, Nat.le_of_lt (small1000 (by omega)), ih (acc ++ y) (by unfold lens; omega) S H2 (f.mono s2) (s.trans (offS_mono s2)) Q fun H3 s3 => q H3 (s2.trans s3)⟩
theorem e_joined {ts : List TE} {ys : List PySem.Str} (h : EvJ σ F ts ys) (hl : lens ys ≤ 1000) : EvD (tJoin ts) σ F (.str (ys.foldl (· ++ ·) PySem.Str.empty)) := fun S H1 f s Q q =>
  e_js h PySem.Str.empty (by show 0 + lens ys ≤ 1000; omega) S H1 f s _ fun H2 s2 => q _ H2 s2 (.str _)
end
end Ca
namespace Q
open PySem PySem.Spec PyProof.Rows L2 Ca
/-! ### text_of_rows -/
abbrev s_txr : Stmt := top 25
theorem sc_txr : FnScope ["rows", "kind", "left", "right", "often"] ["rows"] (defScope s_txr) := ⟨rfl, rfl, rfl, by decide +kernel, rfl, by decide +kernel, by decide +kernel⟩
def rowP (a : Ro) : List PySem.Str := [a.k, " ", PySem.Str.ofString (toString a.l), " ", PySem.Str.ofString (toString a.r), " ", PySem.Str.ofString (toString a.n), "\n"]
def rowT (a : Ro) : PySem.Str := (rowP a).foldl (· ++ ·) PySem.Str.empty
def txr (as : List Ro) : PySem.Str := Txt.join "" (as.map rowT)
theorem kind1 {k : PySem.Str} (h : kindOk k = true) : k.length = 1 := by
  unfold kindOk inV at h
  rw [List.any_eq_true] at h
  obtain ⟨y, hy, e⟩ := h
  have : y = V.str k := by
    rcases List.mem_cons.mp hy with z | hy
    · subst z
      simpa [eqV] using e
    · rcases List.mem_cons.mp hy with z | hy
      · subst z
        simpa [eqV] using e
      · rcases List.mem_cons.mp hy with z | hy
        · subst z
          simpa [eqV] using e
        · cases hy
  subst this
  rcases List.mem_cons.mp hy with z | hy
  · injection z with z
    rw [z]
    decide +kernel
  · rcases List.mem_cons.mp hy with z | hy
    · injection z with z
      rw [z]
      decide +kernel
    · rcases List.mem_cons.mp hy with z | hy
      · injection z with z
        rw [z]
        decide +kernel
      · cases hy
theorem log99 {i : Int} (h0 : 0 ≤ i) (h9 : i ≤ 10000) : i.natAbs.log2 < 1920 := by
  have h : i.natAbs < 2 ^ 14 := by
    have : i.natAbs ≤ 10000 := by omega
    omega
  by_cases z : i.natAbs = 0
  · rw [z]
    decide
  · have := (Nat.log2_lt z).mpr h
    omega
theorem num5 {i : Int} (h0 : 0 ≤ i) (h9 : i ≤ 10000) : (PySem.Str.ofString (toString i)).length ≤ 5 := by
  obtain ⟨n, rfl⟩ := Int.eq_ofNat_of_zero_le h0
  have e := TL.tl_num n
  have l := TL.numL_len (n := n) (k := 5) (by decide) (by omega)
  rw [← e] at l
  exact l
theorem rowP_len {a : Ro} (g : GoodR a) : lens (rowP a) ≤ 40 := by
  have h1 := kind1 g.k
  have h2 := num5 g.l0 (by have := g.l9; omega)
  have h3 := num5 g.r0 (by have := g.r9; omega)
  have h4 := num5 (show 0 ≤ a.n by have := g.n1; omega) g.n9
  have h5 : (PySem.Str.ofString " ").length = 1 := by decide +kernel
  have h6 : (PySem.Str.ofString "\n").length = 1 := by decide +kernel
  unfold lens rowP
  simp only [List.map_cons, List.map_nil, List.sum_cons, List.sum_nil]
  omega
theorem fold_len : ∀ (ys : List PySem.Str) (acc : PySem.Str), (ys.foldl (· ++ ·) acc).length = acc.length + lens ys
  | [], acc => rfl
  | y :: ys, acc => by
    rw [List.foldl_cons, fold_len ys]
    have : (acc ++ y).length = acc.length + y.length := PySem.Str.length_append acc y
    unfold lens
    rw [this, List.map_cons, List.sum_cons]
    omega
theorem rowT_len {a : Ro} (g : GoodR a) : (rowT a).length ≤ 40 := by
  unfold rowT
  rw [fold_len]
  have := rowP_len g
  show 0 + lens (rowP a) ≤ 40
  omega
theorem rows_len {as : List Ro} (h : ∀ a ∈ as, GoodR a) : ((as.map rowT).map (·.length)).sum ≤ 40 * as.length := by
  induction as with
  | nil => exact Nat.le_refl _
  | cons a as ih =>
    have h1 := rowT_len (h a (.head _))
    have h2 := ih fun b hb => h b (.tail _ hb)
    rw [List.map_cons, List.map_cons, List.sum_cons, List.length_cons]
    omega
def RTxrT : List PyData → PyData → Prop := fun ds d => ∃ as : List Ro, ds = [.tuple (as.map roD)] ∧ as.length ≤ 1000 ∧ (∀ a ∈ as, GoodR a) ∧ d = .str (txr as)
def RTxrL : List PyData → PyData → Prop := fun ds d => ∃ as : List Ro, ds = [.list (as.map roD)] ∧ as.length ≤ 1000 ∧ (∀ a ∈ as, GoodR a) ∧ d = .str (txr as)
section
variable {P : Program} {w : World} {K : PySem.W.Frag} {mg : PySem.Str → Option Value} {base : Heap}
theorem ok_txrT {f : Addr} {fd : FuncData} (F : FnP K "text_of_rows" s_txr f fd) (T : Tx K mg) : FnOk P w K mg base CX0 1 f fd ["rows"] (spR RTxrT) := by
  refine F.ok sc_txr (spR_len (by rintro _ _ ⟨as, rfl, _⟩; rfl)) (fun cdv A outer s H vs Q E hr h => ?_)
  obtain ⟨S, ds, d, fr, rA, ⟨as, rfl, hz, hg, rfl⟩, q⟩ := h
  obtain ⟨v0, rfl, r0⟩ := rpa1 rA
  refine ⟨_, PSs.nox (pss_one (ps_ret (pe_joinQ (K := K) rfl pe_str (pe_lc (own := [("kind", 1), ("left", 2), ("right", 3), ("often", 4)]) (g := gTup K 4 (gCons (gName 1) (gCons (gName 2) (gCons (gName 3) (gCons (gName 4) gNil))))) rfl sc_txr.nd (pi_tupQ (K := K) rfl (pv 0)) (blkOk_by (own := [("kind", 1), ("left", 2), ("right", 3), ("often", 4)]) (N := ["rows", "kind", "left", "right", "often"]) (sc := defScope s_txr) (by decide +kernel))
    (fun _ _ _ _ _ => pg_tup (by rfl) (pgs_cons (pg_name (i := 1) sc_txr.nd rfl (Or.inl rfl)) (pgs_cons (pg_name (i := 2) sc_txr.nd rfl (Or.inl rfl)) (pgs_cons (pg_name (i := 3) sc_txr.nd rfl (Or.inl rfl)) (pgs_cons (pg_name (i := 4) sc_txr.nd rfl (Or.inl rfl)) pgs_nil))))) (fun _ _ _ _ _ => pts_nil)
    (fun _ _ _ _ _ => pe_joinedQ (.cons (pe_fmt (pv 1)) (.cons pe_str (.cons (pe_fmt (pv 2)) (.cons pe_str (.cons (pe_fmt (pv 3)) (.cons pe_str (.cons (pe_fmt (pv 4)) (.cons pe_str .nil))))))))))))), ?_⟩
  refine go_ret (P := fun H v => Rp H v (.str (txr as))) fr (eqD (e_joinL e_str (e_lcT (enc := roD) (e_var rfl r0) (by omega) fun a ha x F2 sF r => g_tup4 r fun v1 v2 v3 v4 q1 q2 q3 q4 => ⟨rfl, b_yes, fun _ =>
    e_joined (ys := rowP a) (.cons (e_fmtS (e_var rfl q1) ?_) (.cons e_str (.cons (e_fmtI (e_var rfl q2) ?_) (.cons e_str (.cons (e_fmtI (e_var rfl q3) ?_) (.cons e_str (.cons (e_fmtI (e_var rfl q4) ?_) (.cons e_str .nil)))))))) ?_⟩) ?_ ?_) ?_) q
  · rw [kind1 (hg a ha).k]
    decide
  · exact log99 (hg a ha).l0 (by have := (hg a ha).l9; omega)
  · exact log99 (hg a ha).r0 (by have := (hg a ha).r9; omega)
  · exact log99 (by have := (hg a ha).n1; omega) (hg a ha).n9
  · have := rowP_len (hg a ha)
    omega
  · intro d hd
    obtain ⟨a, _, rfl⟩ := List.mem_map.mp hd
    exact ⟨_, rfl⟩
  · rw [filter_yes, List.map_map (g := strD)]
    have e := rows_len hg
    have e1 : (PySem.Str.ofString "").length = 0 := by decide +kernel
    show ((as.map rowT).map (·.length)).sum + (as.map rowT).length * _ ≤ _
    rw [e1]
    omega
  · rw [filter_yes, List.map_map]
    rfl
theorem ok_txrL {f : Addr} {fd : FuncData} (F : FnP K "text_of_rows" s_txr f fd) (T : Tx K mg) : FnOk P w K mg base CX0 1 f fd ["rows"] (spR RTxrL) := by
  refine F.ok sc_txr (spR_len (by rintro _ _ ⟨as, rfl, _⟩; rfl)) (fun cdv A outer s H vs Q E hr h => ?_)
  obtain ⟨S, ds, d, fr, rA, ⟨as, rfl, hz, hg, rfl⟩, q⟩ := h
  obtain ⟨v0, rfl, r0⟩ := rpa1 rA
  refine ⟨_, PSs.nox (pss_one (ps_ret (pe_joinQ (K := K) rfl pe_str (pe_lc (own := [("kind", 1), ("left", 2), ("right", 3), ("often", 4)]) (g := gTup K 4 (gCons (gName 1) (gCons (gName 2) (gCons (gName 3) (gCons (gName 4) gNil))))) rfl sc_txr.nd (pi_listQ (K := K) rfl (pv 0)) (blkOk_by (own := [("kind", 1), ("left", 2), ("right", 3), ("often", 4)]) (N := ["rows", "kind", "left", "right", "often"]) (sc := defScope s_txr) (by decide +kernel))
    (fun _ _ _ _ _ => pg_tup (by rfl) (pgs_cons (pg_name (i := 1) sc_txr.nd rfl (Or.inl rfl)) (pgs_cons (pg_name (i := 2) sc_txr.nd rfl (Or.inl rfl)) (pgs_cons (pg_name (i := 3) sc_txr.nd rfl (Or.inl rfl)) (pgs_cons (pg_name (i := 4) sc_txr.nd rfl (Or.inl rfl)) pgs_nil))))) (fun _ _ _ _ _ => pts_nil)
    (fun _ _ _ _ _ => pe_joinedQ (.cons (pe_fmt (pv 1)) (.cons pe_str (.cons (pe_fmt (pv 2)) (.cons pe_str (.cons (pe_fmt (pv 3)) (.cons pe_str (.cons (pe_fmt (pv 4)) (.cons pe_str .nil))))))))))))), ?_⟩
  refine go_ret (P := fun H v => Rp H v (.str (txr as))) fr (eqD (e_joinL e_str (e_lcL (enc := roD) (e_var rfl r0) (by omega) fun a ha x F2 sF r => g_tup4 r fun v1 v2 v3 v4 q1 q2 q3 q4 => ⟨rfl, b_yes, fun _ =>
    e_joined (ys := rowP a) (.cons (e_fmtS (e_var rfl q1) ?_) (.cons e_str (.cons (e_fmtI (e_var rfl q2) ?_) (.cons e_str (.cons (e_fmtI (e_var rfl q3) ?_) (.cons e_str (.cons (e_fmtI (e_var rfl q4) ?_) (.cons e_str .nil)))))))) ?_⟩) ?_ ?_) ?_) q
  · rw [kind1 (hg a ha).k]
    decide
  · exact log99 (hg a ha).l0 (by have := (hg a ha).l9; omega)
  · exact log99 (hg a ha).r0 (by have := (hg a ha).r9; omega)
  · exact log99 (by have := (hg a ha).n1; omega) (hg a ha).n9
  · have := rowP_len (hg a ha)
    omega
  · intro d hd
    obtain ⟨a, _, rfl⟩ := List.mem_map.mp hd
    exact ⟨_, rfl⟩
  · rw [filter_yes, List.map_map (g := strD)]
    have e := rows_len hg
    have e1 : (PySem.Str.ofString "").length = 0 := by decide +kernel
    show ((as.map rowT).map (·.length)).sum + (as.map rowT).length * _ ≤ _
    rw [e1]
    omega
  · rw [filter_yes, List.map_map]
    rfl
end
end Q

set_option maxHeartbeats 400000
namespace Q
open PySem PySem.Spec PyProof.Rows L2 Ca
/-! ### Table: rows, len, text -/
abbrev s_trows : Stmt := inClass cT 1
abbrev s_tlen : Stmt := inClass cT 2
abbrev s_ttext : Stmt := inClass cT 11
theorem sc_trows : FnScope ["self"] ["self"] (defScope s_trows) := ⟨rfl, rfl, rfl, by decide +kernel, rfl, by decide +kernel, by decide +kernel⟩
theorem sc_tlen : FnScope ["self"] ["self"] (defScope s_tlen) := ⟨rfl, rfl, rfl, by decide +kernel, rfl, by decide +kernel, by decide +kernel⟩
theorem sc_ttext : FnScope ["self"] ["self"] (defScope s_ttext) := ⟨rfl, rfl, rfl, by decide +kernel, rfl, by decide +kernel, by decide +kernel⟩
theorem TV.mono {H H' : Hp} {C : Addr} {ks : List Ro} {v : V} (s : Same H H') (h : TV C ks H v) : TV C ks H' v := by
  obtain ⟨x, dx, o, e, h1, r⟩ := h
  exact ⟨x, dx, o, e, s _ _ h1, r.mono (KT.of s).m⟩
theorem TV.off {S : Addr → Bool} {H : Hp} {C : Addr} {ks : List Ro} {v : V} (f : Fr S H) (h : TV C ks H v) : TV C ks (offS S H) v := by
  obtain ⟨x, dx, o, e, h1, r⟩ := h
  refine ⟨x, dx, o, e, by rw [offS_at (f.imm h1 (by simp [MutO]))]; exact h1, r.mono (KT.m fun t ys z => ?_)⟩
  rw [offS_at (f.imm z (by simp [MutO]))]
  exact z
theorem tf_kept (o : V) : (tf o).lookup ("kept" : PySem.Str) = some o := by
  unfold tf
  rw [lookup_putF, if_pos rfl]
theorem tf_no (o : V) {m : PySem.Str} (h : ¬ m = "kept") : (tf o).lookup m = none := by
  unfold tf
  rw [lookup_putF, if_neg h]
  rfl
section
variable {K : PySem.W.Frag} {σ : L2.St} {F : Hp} {ta : TE} {C : Addr} {ks : List Ro}
theorem e_kept (cl : Cls K C) (nK : NoAttr K C "kept") (h : EvP ta σ F (TV C ks)) : EvD (tFld K ta "kept") σ F (.tuple (ks.map roD)) := fun S H1 f s Q q =>
  h S H1 f s _ fun v H2 s2 p => by
    obtain ⟨x, dx, o, rfl, h1, r⟩ := p
    exact ⟨x, C, dx, _, _, rfl, offS_same _ _ h1, cl, nK, tf_kept _, q _ H2 s2 (r.mono onlyT_same)⟩
end
def ITRows (C : Addr) : Hp → List V → (Hp → V → Prop) → Prop := fun F vs P => ∃ v ks, vs = [v] ∧ TV C ks F v ∧ P = fun H v => Rp H v (.tuple (ks.map roD))
def ITLen (C : Addr) : Hp → List V → (Hp → V → Prop) → Prop := fun F vs P => ∃ v ks, vs = [v] ∧ TV C ks F v ∧ P = fun H v => Rp H v (.int ks.length)
def ITText (C : Addr) : Hp → List V → (Hp → V → Prop) → Prop := fun F vs P => ∃ v ks, vs = [v] ∧ TV C ks F v ∧ ks.length ≤ 1000 ∧ (∀ a ∈ ks, GoodR a) ∧ P = fun H v => Rp H v (.str (txr ks))
section
variable {P : Program} {w : World} {K : PySem.W.Frag} {mg : PySem.Str → Option Value} {base : Heap}
theorem ok_trows {f C N : Addr} {fd : FuncData} (F : FnM K "rows" "Table.rows" s_trows f fd) (TQ : TT K mg C N) : FnOk P w K mg base CX0 1 f fd ["self"] (spQ (ITRows C)) := by
  refine F.ok sc_trows (spQ_len (by rintro _ _ _ ⟨v, ks, rfl, _⟩; rfl)) (fun cdv A outer s H vs Q E hr h => ?_)
  obtain ⟨S, P0, fr, ⟨v, ks, rfl, tv, rfl⟩, q⟩ := h
  refine ⟨_, PSs.nox (pss_one (ps_ret (pe_fld (pv 0) rfl))), ?_⟩
  exact go_ret (P := fun H v => Rp H v (.tuple (ks.map roD))) fr (e_kept TQ.cl TQ.nK (e_varP (P := TV C ks) rfl fun _ s => tv.mono s)) q
theorem ok_tlen {f C N : Addr} {fd : FuncData} (F : FnM K "__len__" "Table.__len__" s_tlen f fd) (T : Tx K mg) (TQ : TT K mg C N) : FnOk P w K mg base CX0 1 f fd ["self"] (spQ (ITLen C)) := by
  refine F.ok sc_tlen (spQ_len (by rintro _ _ _ ⟨v, ks, rfl, _⟩; rfl)) (fun cdv A outer s H vs Q E hr h => ?_)
  obtain ⟨S, P0, fr, ⟨v, ks, rfl, tv, rfl⟩, q⟩ := h
  refine ⟨_, PSs.nox (pss_one (ps_ret (pe_callB (call_lenQ : CallR _ _ (rLenQ K)) (by rfl) T.len bLen (pa_cons (pe_fld (pv 0) rfl) pa_nil)))), ?_⟩
  exact go_ret (P := fun H v => Rp H v (.int ks.length)) fr (eqD (e_lenT (e_kept TQ.cl TQ.nK (e_varP (P := TV C ks) rfl fun _ s => tv.mono s))) (by rw [List.length_map])) q
theorem ok_ttext {f C N : Addr} {fd : FuncData} (F : FnM K "text" "Table.text" s_ttext f fd) (TQ : TT K mg C N) (D1 : Fd P w K mg base "text_of_rows" 1 ["rows"] (spR RTxrT)) : FnOk P w K mg base CX0 2 f fd ["self"] (spQ (ITText C)) := by
  obtain ⟨f1, fd1, G1, b1, k1, m1⟩ := D1.ex
  refine F.ok sc_ttext (spQ_len (by rintro _ _ _ ⟨v, ks, rfl, _⟩; rfl)) (fun cdv A outer s H vs Q E hr h => ?_)
  obtain ⟨S, P0, fr, ⟨v, ks, rfl, tv, hz, g, rfl⟩, q⟩ := h
  refine ⟨_, PSs.nox (pss_one (ps_ret (pe_call G1 (hr.mono (by decide)) rfl m1 k1 b1 .nil pass0 (pa_cons (pe_fld (pv 0) rfl) pa_nil)))), ?_⟩
  exact go_ret (P := fun H v => Rp H v (.str (txr ks))) fr (e_call (a_cons (e_kept TQ.cl TQ.nK (e_varP (P := TV C ks) rfl fun _ s => tv.mono s)) a_nil) ⟨ks, rfl, hz, g, rfl⟩) q
end
end Q

set_option maxHeartbeats 400000
namespace Q
open PySem PySem.Spec PyProof.Rows L2 Ca
/-! ### table_within_limits, where the rows are those of a table -/
abbrev s_twl : Stmt := top 33
theorem sc_twl : FnScope ["rows"] ["rows"] (defScope s_twl) := ⟨rfl, rfl, rfl, by decide +kernel, rfl, by decide +kernel, by decide +kernel⟩
theorem same2 {H : Hp} {x dx p : Addr} {o1 o2 o3 : HO} (hx : H x = none) (hd : H dx = none) (hp : upd (upd H dx o1) x o2 p = none) : Same H (upd (upd (upd H dx o1) x o2) p o3) := fun b u e => by
  have n1 : b ≠ dx := ne_of_none e hd
  have n2 : b ≠ x := ne_of_none e hx
  have e2 : upd (upd H dx o1) x o2 b = some u := by rw [upd_ne n2, upd_ne n1]; exact e
  rw [upd_ne (ne_of_none e2 hp)]
  exact e2
section
variable {K : PySem.W.Frag} {σ : L2.St} {F : Hp} {te : TE} {C N : Addr} {E : XK}
/-- Table(*x), x a list of rows -/
theorem e_tabStar {rs ks : List Ro} (h : EvD te σ F (.list (rs.map roD))) (hA : AreR (rs.map roD)) (hk : srtD (rs.map roD) = ks.map roD) : EvP (tGlbStar K C (spTInitR C N) E te) σ F (TV C ks) := fun S H1 f s Q q =>
  h S H1 f s _ fun v H2 s2 r => by
    obtain ⟨a, xs, rfl, ha, rx⟩ := rp_lst r
    have lx : xs.length ≤ 12 := by
      have := hA.1
      rw [rx.length]
      exact this
    refine ⟨a, xs, rfl, .inr (.inl (.inl ha)), fun x dx hx hd ndx => ⟨[.ref x], xs, rfl, rfl, Nat.le_of_lt (small1000 (by omega)), fun p hp => ?_⟩⟩
    have sm := same2 (o1 := .own x) (o2 := .ins C dx []) (o3 := .tup xs) hx hd hp
    have npx : x ≠ p := fun z => by
      rw [← z, upd_same] at hp
      cases hp
    refine ⟨x, dx, p, rs.map roD, true, rfl, by rw [upd_ne npx, upd_same], .tup upd_same ((rx.mono offS_same).mono sm), by have := hA.1; omega, ⟨fun _ => hA, fun _ => rfl⟩, (fun z => by cases z), fun rs' ks' e' _ ek pk H' keep tv => ⟨rfl, ?_⟩⟩
    have ekk : ks' = ks := roD_inj (ek.symm.trans hk)
    subst ekk
    have sH : Same H2 H' := fun b u e => keep b u (ne_of_none e hx) (sm b u e)
    exact q _ H' (s2.trans sH) (tv.off ((f.mono s2).mono sH))
end
def ITwl (C : Addr) : Hp → List V → (Hp → V → Prop) → Prop := fun F vs P => ∃ (v : V) (rs ks : List Ro), vs = [v] ∧ Rp F v (.list (rs.map roD)) ∧ AreR (rs.map roD) ∧ srtD (rs.map roD) = ks.map roD ∧ P = TV C ks
section
variable {P : Program} {w : World} {K : PySem.W.Frag} {mg : PySem.Str → Option Value} {base : Heap}
theorem ok_twl {f C N fI : Addr} {fd : FuncData} (F : FnP K "table_within_limits" s_twl f fd) (M : Mk K C fI) (GI : FnR P w K mg base (L2.CX P w) 6 fI (spTInitR C N)) (gC : mg "Table" = some (.ref C)) (D1 : Fd P w K mg base "are_rows" 5 ["things"] (spR RRowsL)) :
    FnOk P w K mg base CX0 8 f fd ["rows"] (spQ (ITwl C)) := by
  obtain ⟨f1, fd1, G1, b1, k1, m1⟩ := D1.ex
  refine F.ok sc_twl (spQ_len (by rintro _ _ _ ⟨v, rs, ks, rfl, _⟩; rfl)) (fun cdv A outer s H vs Q E hr h => ?_)
  obtain ⟨S, P0, fr, ⟨v0, rs, ks, rfl, r0, hA, hk, rfl⟩, q⟩ := h
  refine ⟨_, PSs.nox (pss_cons (ps_if (pt_not (pt_val (pe_call G1 (hr.mono (by decide)) rfl m1 k1 b1 .nil pass0 (pa_cons (pv 0) pa_nil)))) pss_never pss_nil) (pss_one (ps_ret (pe_glbStar M GI (hr.mono (by decide)) rfl gC passL (pv 0))))), ?_⟩
  have hR : RRowsL [.list (rs.map roD)] (.bool true) := ⟨rs.map roD, true, rfl, by have := hA.1; omega, rfl, ⟨fun _ => hA, fun _ => rfl⟩⟩
  refine go_ifS (b := false) fr (b_not (b_val (e_call (a_cons (e_var rfl r0) a_nil) hR))) (fun z => by cases z) fun _ H1 s1 fr1 => ?_
  exact go_ret (P := TV C ks) fr1 (e_tabStar (N := N) (e_var rfl (r0.mono (offS_mono (S := S) s1))) hA hk) fun v H2 s2 p2 => q v H2 (s1.trans s2) p2
end
end Q

set_option maxHeartbeats 400000
namespace Q
open PySem PySem.Spec PyProof.Rows L2 Ca
/-! ### number_of_word: of what text() writes -/
abbrev dgT (i : Int) : PySem.Str := PySem.Str.ofString (toString i)
abbrev s_nowT : Stmt := top 6
theorem sc_nowT : FnScope ["word"] ["word"] (defScope s_nowT) := ⟨rfl, rfl, rfl, by decide +kernel, rfl, by decide +kernel, by decide +kernel⟩
theorem dig_uniT : ∀ c, 48 ≤ c → c ≤ 57 → Unicode.isDigit c = true := by
  have h : ∀ c, c < 58 → 48 ≤ c → Unicode.isDigit c = true := by decide +kernel
  exact fun c a b => h c (by omega) a
theorem dgT_facts {i : Int} (h0 : 0 ≤ i) (h9 : i ≤ 10000) : (dgT i).length ≤ 5 ∧ Txt.isascii (dgT i) = true ∧ Txt.isdigit (dgT i) = true ∧ PySem.intText? (dgT i) = some i := by
  have l5 := num5 h0 h9
  obtain ⟨n, rfl⟩ := Int.eq_ofNat_of_zero_le h0
  have e : (dgT ((n : Nat) : Int)).cps.toList = TL.numL n := TL.tl_num n
  have dgs := TL.numL_digits n
  have len : (TL.numL n).length ≤ 5 := by
    rw [← e, Array.length_toList]
    exact l5
  refine ⟨l5, ?_, ?_, TL.int_num (by omega)⟩
  · unfold Txt.isascii
    rw [← Array.all_toList, e]
    exact List.all_eq_true.mpr fun c hc => decide_eq_true (by have := (dgs c hc).2; omega)
  · unfold Txt.isdigit
    rw [← Array.all_toList, e, Bool.and_eq_true]
    refine ⟨decide_eq_true ?_, List.all_eq_true.mpr fun c hc => dig_uniT c (dgs c hc).1 (dgs c hc).2⟩
    have : 0 < (TL.numL n).length := List.length_pos_iff.mpr (TL.numL_ne n)
    rw [← e, Array.length_toList] at this
    exact this
def spNowT : Sp := fun vs H Q _ => ∃ i : Int, vs = [.str (dgT i)] ∧ 0 ≤ i ∧ i ≤ 10000 ∧ Q (.int i) H
def RNowT : List PyData → PyData → Prop := fun ds d => ∃ i : Int, ds = [.str (dgT i)] ∧ 0 ≤ i ∧ i ≤ 10000 ∧ d = .int i
theorem now_impT : ∀ vs H Q E, spR RNowT vs H Q E → spNowT vs H Q E := by
  rintro vs H Q E ⟨S, ds, d, f, r, ⟨i, rfl, h0, h9, rfl⟩, q⟩
  obtain ⟨v, rfl, r1⟩ := rpa1 r
  cases r1
  exact ⟨i, rfl, h0, h9, q _ H (Same.refl _) (.int _)⟩
section
variable {P : Program} {w : World} {K : PySem.W.Frag} {mg : PySem.Str → Option Value} {base : Heap}
theorem ok_nowT {f : Addr} {fd : FuncData} (F : FnP K "number_of_word" s_nowT f fd) (T : Tx K mg) (hL : ∃ t, mg "LONGEST_NUMBER" = some (.int 5 t)) : FnOk P w K mg base CX0 1 f fd ["word"] spNowT := by
  obtain ⟨tL, gL⟩ := hL
  refine F.ok sc_nowT (fun vs H Q E h => ?_) (fun cdv A outer s H vs Q E hr h => ?_)
  · obtain ⟨i, rfl, _⟩ := h
    rfl
  · obtain ⟨i, rfl, h0, h9, q⟩ := h
    obtain ⟨l, a1, a2, a3⟩ := dgT_facts h0 h9
    refine ⟨_, PSs.nox (pss_cons (ps_if (PW.pt (pw_or (pt_cmpR op_gt (pe_callB call_len_str (by rfl) T.len bLen (pa_cons (pv 0) pa_nil)) (pe_glob (v := .int 5) rfl gL ⟨tL, rfl⟩) (nomark _)) (pw_or (pt_not (pt_val (pe_m0 PySem.F.slot_str_isascii PySem.F.type_str_isascii mt_isascii (pv 0)))) (pw_or1 (pt_not (pt_val (pe_m0 PySem.F.slot_str_isdigit PySem.F.type_str_isdigit mt_isdigit (pv 0)))))))) (pss_one (ps_ret (pe_un un_neg pe_int))) pss_nil)
      (pss_one (ps_ret (pe_callTy call_int_str (by rfl) T.int bInt (pa_cons (pv 0) pa_nil))))), ?_⟩
    refine ⟨_, rfl, _, rfl, Nat.le_trans l (by decide), _, 5, rfl, rfl, _, rfl, ?_⟩
    have e : decide ((5 : Int) < ((dgT i).length : Nat)) = false := decide_eq_false (by omega)
    rw [e]
    refine iteF ⟨_, rfl, ⟨_, rfl⟩, _, rfl, rfl, trivial, _, rfl, ?_⟩
    rw [a1]
    refine iteF ⟨_, rfl, ⟨_, rfl⟩, _, rfl, rfl, trivial, _, rfl, ?_⟩
    rw [a2]
    exact iteF ⟨_, rfl, _, i, rfl, a3, Nat.le_trans l (by decide), q⟩
end
end Q

set_option maxHeartbeats 400000
namespace Ca
open PySem PySem.Spec PyProof.Rows L2
def rSplitQ : V → List V → Hp → VK → Prop := fun x xs H Q => ∃ a b, x = .str a ∧ xs = [.str b] ∧ (b.length == 0) = false ∧ a.length + 2 ≤ sizeLine ∧ rNewStrs (Txt.split a b) H Q
theorem pe_splitQ {X : Cx} {o e : Expr} {to te : TE} {apos pos : Pos} (ho : PE X o to) (he : PE X e te) (hs : starEach [e] X.env = [(false, eval e X.env)] := by rfl) (hbase : attributeBase o "split" X.env (eval o X.env) = eval o X.env := by rfl) (hline : (apos.endLine == pos.line) = true := by rfl) :
    PE X (.Call (.Attribute o "split" apos) [e] [] pos) (tM1 rSplitQ to te) := pe_split ho he hs hbase hline
section
variable {K : PySem.W.Frag} {σ : L2.St} {F : Hp} {ta tb te : TE} {tas : TA} {ds es : List PyData}
theorem rp_strs {H : Hp} : ∀ ws : List PySem.Str, RpA H (ws.map V.str) (ws.map PyData.str)
  | [] => .nil
  | w :: ws => .cons (.str w) (rp_strs ws)
theorem e_split {a b : PySem.Str} (ha : EvD ta σ F (.str a)) (hb : EvD tb σ F (.str b)) (h0 : (b.length == 0) = false) (hl : a.length ≤ 900) : EvD (tM1 rSplitQ ta tb) σ F (.list ((Txt.split a b).map .str)) := fun S H1 f s Q q =>
  ha S H1 f s _ fun v H2 s2 r2 => by
    cases r2
    refine ⟨⟨_, rfl⟩, hb S H2 (f.mono s2) (s.trans (offS_mono s2)) _ fun w H3 s3 r3 => ?_⟩
    cases r3
    refine ⟨a, b, rfl, rfl, h0, Nat.le_of_lt (small1000 (by omega)), fun p hp => q _ _ ((s2.trans s3).trans (same_new hp)) (.lst (offS_new ((f.mono s2).mono s3) hp) (rp_strs _))⟩
theorem a_starL (h : EvD te σ F (.list es)) (hs : EvA tas σ F ds) : EvA (StX.tStar K te tas) σ F (es ++ ds) := fun S H1 f s Q q =>
  h S H1 f s _ fun v H2 s2 r => by
    obtain ⟨a, xs, rfl, ha, rx⟩ := rp_lst r
    exact ⟨a, xs, rfl, .inr (.inl (.inl ha)), hs S H2 (f.mono s2) (s.trans (offS_mono s2)) _ fun ys H3 s3 ry => q _ H3 (s2.trans s3) ((rx.mono (offS_mono s3)).append ry)⟩
end
end Ca
namespace Q
open PySem PySem.Spec PyProof.Rows L2 Ca
/-! ### row_of_line: of what text() writes -/
abbrev s_rol : Stmt := top 26
theorem sc_rol : FnScope ["line", "words", "numbers", "word"] ["line"] (defScope s_rol) := ⟨rfl, rfl, rfl, by decide +kernel, rfl, by decide +kernel, by decide +kernel⟩
def rowL (a : Ro) : List PySem.Str := [a.k, dgT a.l, dgT a.r, dgT a.n]
def rowW (a : Ro) : PySem.Str := Txt.join " " (rowL a)
def RRol : List PyData → PyData → Prop := fun ds d => ∃ a : Ro, ds = [.str (rowW a)] ∧ GoodR a ∧ d = roD a
theorem no_sp {a : Ro} (g : GoodR a) : ∀ p ∈ rowL a, (32 : Nat) ∉ p.cps.toList := by
  have num : ∀ {i : Int}, 0 ≤ i → (32 : Nat) ∉ (dgT i).cps.toList := fun {i} h0 hm => by
    obtain ⟨n, rfl⟩ := Int.eq_ofNat_of_zero_le h0
    have e : (dgT ((n : Nat) : Int)).cps.toList = TL.numL n := TL.tl_num n
    rw [e] at hm
    have := (TL.numL_digits n 32 hm).1
    omega
  intro p hp
  rcases List.mem_cons.mp hp with e | hp
  · rw [e]
    have k := g.k
    unfold kindOk inV at k
    rw [List.any_eq_true] at k
    obtain ⟨y, hy, ey⟩ := k
    rcases List.mem_cons.mp hy with z | hy
    · subst z
      have e1 : PySem.Str.ofString "A" = a.k := by simpa [eqV] using ey
      rw [← e1]
      decide +kernel
    · rcases List.mem_cons.mp hy with z | hy
      · subst z
        have e1 : PySem.Str.ofString "B" = a.k := by simpa [eqV] using ey
        rw [← e1]
        decide +kernel
      · rcases List.mem_cons.mp hy with z | hy
        · subst z
          have e1 : PySem.Str.ofString "C" = a.k := by simpa [eqV] using ey
          rw [← e1]
          decide +kernel
        · cases hy
  · rcases List.mem_cons.mp hp with e | hp
    · rw [e]; exact num g.l0
    · rcases List.mem_cons.mp hp with e | hp
      · rw [e]; exact num g.r0
      · rcases List.mem_cons.mp hp with e | hp
        · rw [e]; exact num (by have := g.n1; omega)
        · cases hp
theorem split_row {a : Ro} (g : GoodR a) : Txt.split (rowW a) " " = rowL a := by
  unfold rowW
  exact TL.split_join (y := " ") (s := 32) (S := []) (by decide +kernel) (by decide +kernel) (by simp [rowL]) (no_sp g)
theorem rowW_len {a : Ro} (g : GoodR a) : (rowW a).length ≤ 40 := by
  have z := StrLaws.join_length_le " " (rowL a)
  have e1 : (PySem.Str.ofString " ").length = 1 := by decide +kernel
  have h1 := kind1 g.k
  have h2 : (dgT a.l).length ≤ 5 := num5 g.l0 (by have := g.l9; omega)
  have h3 : (dgT a.r).length ≤ 5 := num5 g.r0 (by have := g.r9; omega)
  have h4 : (dgT a.n).length ≤ 5 := num5 (show 0 ≤ a.n by have := g.n1; omega) g.n9
  unfold rowW
  rw [TL.join_eq]
  unfold rowL at z ⊢
  simp only [List.map_cons, List.map_nil, List.sum_cons, List.sum_nil, List.length_cons, List.length_nil, e1] at z
  omega
section
variable {P : Program} {w : World} {K : PySem.W.Frag} {mg : PySem.Str → Option Value} {base : Heap}
theorem ok_rol {f : Addr} {fd : FuncData} (F : FnP K "row_of_line" s_rol f fd) (T : Tx K mg) (D1 : Fd P w K mg base "number_of_word" 1 ["word"] (spR RNowT)) : FnOk P w K mg base CX0 2 f fd ["line"] (spR RRol) := by
  obtain ⟨f1, fd1, G1, b1, k1, m1⟩ := D1.ex
  refine F.ok sc_rol (spR_len (by rintro _ _ ⟨a, rfl, _⟩; rfl)) (fun cdv A outer s H vs Q E hr h => ?_)
  obtain ⟨S, ds, d, fr, rA, ⟨a, rfl, g, rfl⟩, q⟩ := h
  obtain ⟨v0, rfl, r0⟩ := rpa1 rA
  refine ⟨_, PSs.nox (pss_cons (ps_set (i := 1) sc_rol.nd rfl (.inl rfl) (pe_splitQ (pv 0) pe_str))
    (pss_cons (ps_setLc (i := 2) (own := [("word", 3)]) (g := gName 3) (by rfl) sc_rol.nd rfl rfl (sw_true rfl rfl rfl (by decide +kernel)) (pi_listQ (K := K) rfl (pe_slice (sl_list : SlR _ (rSlL K)) (pv 1) (po_some pe_int) po_none))
      (blkOk_by (own := [("word", 3)]) (N := ["line", "words", "numbers", "word"]) (sc := defScope s_rol) (by decide +kernel)) (fun _ _ _ _ _ => pg_name (i := 3) sc_rol.nd rfl (Or.inl rfl)) (fun _ _ _ _ _ => pts_nil) (fun _ _ _ _ _ => pe_call G1 (hr.mono (by decide)) rfl m1 k1 b1 .nil pass0 (pa_cons (pv 3) pa_nil)))
    (pss_one (ps_ret (pe_tup (pa_cons (pe_ix (ix_list : IxR _ (rIxL K)) (pv 1) pe_int (fun _ _ => rfl)) (StX.pa_star (pv 2) pa_nil))))))), ?_⟩
  have wl := rowW_len g
  refine go_setS (P := fun H v => Rp H v (.list ((rowL a).map .str))) fr (eqD (e_split (e_var rfl r0) e_str (by decide +kernel) (by omega)) (by rw [split_row g])) fun v1 H1 s1 fr1 r1 => ?_
  refine go_setS (P := fun H v => Rp H v (.list ([a.l, a.r, a.n].map .int))) fr1 (eqD (e_lcL (enc := fun i : Int => PyData.str (dgT i)) (as := [a.l, a.r, a.n]) (b := fun _ => true) (ev := fun i => PyData.int i) (eqD (e_slL (e_var rfl r1) (o_some e_int) o_none) rfl) (Nat.le_of_ble_eq_true rfl) fun i hi x F2 sF r => g_name ⟨rfl, b_yes, fun _ => e_call (a_cons (e_var rfl r) a_nil) ⟨i, rfl, ?_, ?_, rfl⟩⟩) rfl) fun v2 H2 s2 fr2 r2 => ?_
  · rcases List.mem_cons.mp hi with e | hi
    · rw [e]; exact g.l0
    · rcases List.mem_cons.mp hi with e | hi
      · rw [e]; exact g.r0
      · rw [List.mem_singleton.mp hi]; have := g.n1; omega
  · rcases List.mem_cons.mp hi with e | hi
    · rw [e]; have := g.l9; omega
    · rcases List.mem_cons.mp hi with e | hi
      · rw [e]; have := g.r9; omega
      · rw [List.mem_singleton.mp hi]; exact g.n9
  · exact go_ret (P := fun H v => Rp H v (roD a)) fr2 (e_tup (ds := [.str a.k, .int a.l, .int a.r, .int a.n]) (a_cons (e_ixL (n := 0) (e_var rfl (r1.mono (offS_mono (S := S) s2))) e_int rfl rfl) (a_starL (es := [.int a.l, .int a.r, .int a.n]) (ds := []) (e_var rfl r2) a_nil)) (Nat.le_of_ble_eq_true rfl)) fun v H3 s3 r3 => q v H3 (s1.trans (s2.trans s3)) r3
end
end Q

set_option maxHeartbeats 400000
namespace Q
open PySem PySem.Spec PyProof.Rows L2 Ca
/-! ### the text of a table, split at its line feeds -/
theorem str_same {x y : PySem.Str} (h : TL.tl x = TL.tl y) : x = y := TL.ext_tl h
theorem rowT_eq (a : Ro) : rowT a = rowW a ++ "\n" := by
  refine str_same ?_
  have e : TL.tl PySem.Str.empty = [] := rfl
  have j : TL.tl (rowW a) = TL.tl a.k ++ (TL.tl " " ++ (TL.tl (dgT a.l) ++ (TL.tl " " ++ (TL.tl (dgT a.r) ++ (TL.tl " " ++ TL.tl (dgT a.n)))))) := by
    unfold rowW
    rw [TL.join_eq, TL.tl_join]
    rfl
  rw [TL.tl_append, j]
  unfold rowT rowP
  simp only [List.foldl_cons, List.foldl_nil, TL.tl_append, e, List.nil_append, List.append_assoc]
theorem tl_txr : ∀ as : List Ro, TL.tl (txr as) = TL.joinL (TL.tl "\n") ((as.map rowW ++ [PySem.Str.ofString ""]).map TL.tl)
  | [] => by
    unfold txr
    rw [TL.join_eq, TL.tl_join]
    rfl
  | [a] => by
    unfold txr
    rw [TL.join_eq, TL.tl_join]
    show TL.tl (rowT a) = TL.tl (rowW a) ++ (TL.tl "\n" ++ TL.tl "")
    rw [rowT_eq, TL.tl_append]
    rfl
  | a :: b :: as => by
    have ih := tl_txr (b :: as)
    unfold txr at ih ⊢
    rw [TL.join_eq, TL.tl_join] at ih ⊢
    have e0 : TL.tl "" = [] := rfl
    show TL.tl (rowT a) ++ (TL.tl "" ++ TL.joinL (TL.tl "") (((b :: as).map rowT).map TL.tl)) = TL.tl (rowW a) ++ (TL.tl "\n" ++ TL.joinL (TL.tl "\n") (((b :: as).map rowW ++ [PySem.Str.ofString ""]).map TL.tl))
    rw [ih, rowT_eq, TL.tl_append, e0, List.nil_append, List.append_assoc]
theorem txr_join (as : List Ro) : txr as = Txt.join "\n" (as.map rowW ++ [PySem.Str.ofString ""]) := by
  refine str_same ?_
  rw [tl_txr, TL.join_eq, TL.tl_join]
theorem cut_last (ds : List PyData) (d : PyData) : Ca.cutD (ds ++ [d]) none (some (-1)) = ds := by
  unfold Ca.cutD
  rw [HT.sIx_none]
  have e : HT.sIx (ds ++ [d]).length (ds ++ [d]).length (some (-1)) = ds.length := by
    unfold HT.sIx
    rw [List.length_append]
    simp
    try omega
  rw [e, Nat.sub_zero, List.drop_zero, List.take_left]
end Q

set_option maxHeartbeats 400000
namespace Q
open PySem PySem.Spec PyProof.Rows L2 Ca
section
variable {K : PySem.W.Frag} {σ : L2.St} {F : Hp} {ta te : TE} {C N : Addr} {E : XK} {d : PyData}
theorem e_isiS (h : EvD ta σ F d) : EvD (tCB (rIsi K) (tCons ta (tCons (tC (.ty "str")) tNil))) σ F (.bool (isStr d)) := fun S H1 f s Q q => h S H1 f s _ fun v H2 s2 r =>
  ⟨_, _, _, _, _, rfl, .ty _, (r.mono offS_same).ty, kStr d, q _ H2 s2 (.bl _)⟩
/-- cls(*x), x a list of rows -/
theorem e_clsStar {i : Nat} {rs ks : List Ro} (h0 : σ[i]? = some (some (.ref C))) (h : EvD te σ F (.list (rs.map roD))) (hA : AreR (rs.map roD)) (hk : srtD (rs.map roD) = ks.map roD) : EvP (tClsStar K C i (spTInitR C N) E te) σ F (TV C ks) := fun S H1 f s Q q =>
  ⟨h0, e_tabStar (K := K) (C := C) (N := N) (E := E) h hA hk S H1 f s Q q⟩
end
/-! ### Table.read: of what text() writes -/
abbrev s_tread : Stmt := inClass cT 12
theorem sc_tread : FnScope ["cls", "text", "rows", "line"] ["cls", "text"] (defScope s_tread) := ⟨rfl, rfl, rfl, by decide +kernel, rfl, by decide +kernel, by decide +kernel⟩
def ITRead (C : Addr) : Hp → List V → (Hp → V → Prop) → Prop := fun F vs P => ∃ ks : List Ro, vs = [.ref C, .str (txr ks)] ∧ AreR (ks.map roD) ∧ (∀ a ∈ ks, GoodR a) ∧ srtD (ks.map roD) = ks.map roD ∧ P = TV C ks
theorem tl_rowW (a : Ro) : TL.tl (rowW a) = TL.tl a.k ++ (TL.tl " " ++ (TL.tl (dgT a.l) ++ (TL.tl " " ++ (TL.tl (dgT a.r) ++ (TL.tl " " ++ TL.tl (dgT a.n)))))) := by
  unfold rowW
  rw [TL.join_eq, TL.tl_join]
  rfl
theorem no_lf {a : Ro} (g : GoodR a) : (10 : Nat) ∉ TL.tl (rowW a) := by
  have num : ∀ {i : Int}, 0 ≤ i → (10 : Nat) ∉ TL.tl (dgT i) := fun {i} h0 hm => by
    obtain ⟨n, rfl⟩ := Int.eq_ofNat_of_zero_le h0
    rw [show TL.tl (dgT ((n : Nat) : Int)) = TL.numL n from TL.tl_num n] at hm
    have := (TL.numL_digits n 10 hm).1
    omega
  have sp : (10 : Nat) ∉ TL.tl " " := by decide +kernel
  have kk : (10 : Nat) ∉ TL.tl a.k := by
    have k := g.k
    unfold kindOk inV at k
    rw [List.any_eq_true] at k
    obtain ⟨y, hy, ey⟩ := k
    rcases List.mem_cons.mp hy with z | hy
    · subst z
      have e1 : PySem.Str.ofString "A" = a.k := by simpa [eqV] using ey
      rw [← e1]
      decide +kernel
    · rcases List.mem_cons.mp hy with z | hy
      · subst z
        have e1 : PySem.Str.ofString "B" = a.k := by simpa [eqV] using ey
        rw [← e1]
        decide +kernel
      · rcases List.mem_cons.mp hy with z | hy
        · subst z
          have e1 : PySem.Str.ofString "C" = a.k := by simpa [eqV] using ey
          rw [← e1]
          decide +kernel
        · cases hy
  have n1 := num g.l0
  have n2 := num g.r0
  have n3 := num (show 0 ≤ a.n by have := g.n1; omega)
  rw [tl_rowW]
  simp only [List.mem_append, not_or]
  exact ⟨kk, sp, n1, sp, n2, sp, n3⟩
theorem split_txr {as : List Ro} (g : ∀ a ∈ as, GoodR a) : Txt.split (txr as) "\n" = as.map rowW ++ [PySem.Str.ofString ""] := by
  rw [txr_join]
  refine TL.split_join (y := "\n") (s := 10) (S := []) (by decide +kernel) (by decide +kernel) (by simp) fun p hp => ?_
  rcases List.mem_append.mp hp with z | z
  · obtain ⟨a, ha, rfl⟩ := List.mem_map.mp z
    exact no_lf (g a ha)
  · rw [List.mem_singleton.mp z]
    decide +kernel
theorem txr_len {as : List Ro} (g : ∀ a ∈ as, GoodR a) (h : as.length ≤ 12) : (txr as).length ≤ 600 := by
  have z := StrLaws.join_length_le "" (as.map rowT)
  have r := rows_len g
  have e1 : (PySem.Str.ofString "").length = 0 := by decide +kernel
  rw [e1] at z
  unfold txr
  rw [TL.join_eq]
  omega
section
variable {P : Program} {w : World} {K : PySem.W.Frag} {mg : PySem.Str → Option Value} {base : Heap}
theorem ok_tread {f C N fI : Addr} {fd : FuncData} (F : FnM K "read" "Table.read" s_tread f fd) (T : Tx K mg) (M : Mk K C fI) (GI : FnR P w K mg base (L2.CX P w) 6 fI (spTInitR C N)) (D1 : Fd P w K mg base "row_of_line" 2 ["line"] (spR RRol))
    (D2 : Fd P w K mg base "are_rows" 5 ["things"] (spR RRowsL)) (D3 : Fd P w K mg base "text_of_rows" 1 ["rows"] (spR RTxrL)) : FnOk P w K mg base CX0 8 f fd ["cls", "text"] (spQ (ITRead C)) := by
  obtain ⟨f1, fd1, G1, b1, k1, m1⟩ := D1.ex
  obtain ⟨f2, fd2, G2, b2, k2, m2⟩ := D2.ex
  obtain ⟨f3, fd3, G3, b3, k3, m3⟩ := D3.ex
  refine F.ok sc_tread (spQ_len (by rintro _ _ _ ⟨ks, rfl, _⟩; rfl)) (fun cdv A outer s H vs Q E hr h => ?_)
  obtain ⟨S, P0, fr, ⟨ks, rfl, hA, g, hs, rfl⟩, q⟩ := h
  have l12 : ks.length ≤ 12 := by
    have := hA.1
    rw [List.length_map] at this
    exact this
  refine ⟨_, PSs.nox (pss_cons (ps_if (pt_not (pt_val (pe_callB (call_isi : CallR _ _ (rIsi K)) (by rfl) T.isi bIsi (pa_cons (pv 1) (pa_cons (pe_bltn (v := .ty "str") (by rfl) T.str bStr rfl) pa_nil))))) pss_never pss_nil)
    (pss_cons (ps_setLc (i := 2) (own := [("line", 3)]) (g := gName 3) (by rfl) sc_tread.nd rfl rfl (sw_true rfl rfl rfl (by decide +kernel)) (pi_listQ (K := K) rfl (pe_slice (sl_list : SlR _ (rSlL K)) (pe_splitQ (pv 1) pe_str) po_none (po_some (pe_un un_neg pe_int))))
      (blkOk_by (own := [("line", 3)]) (N := ["cls", "text", "rows", "line"]) (sc := defScope s_tread) (by decide +kernel)) (fun _ _ _ _ _ => pg_name (i := 3) sc_tread.nd rfl (Or.inl rfl)) (fun _ _ _ _ _ => pts_nil) (fun _ _ _ _ _ => pe_call G1 (hr.mono (by decide)) rfl m1 k1 b1 .nil pass0 (pa_cons (pv 3) pa_nil)))
    (pss_cons (ps_if (PW.pt (pw_or (pt_not (pt_val (pe_call G2 (hr.mono (by decide)) rfl m2 k2 b2 .nil pass0 (pa_cons (pv 2) pa_nil)))) (pw_or1 (pt_cmpR op_ne (pe_call G3 (hr.mono (by decide)) rfl m3 k3 b3 .nil pass0 (pa_cons (pe_callB (cr_sortD T.sm (hr.mono (Nat.le_refl _)) : CallR _ _ rSortD) (by rfl) T.sorted bSorted (pa_cons (pv 2) pa_nil)) pa_nil)) (pv 1) (nomark _))))) pss_never pss_nil)
    (pss_one (ps_ret (pe_clsStar (i := 0) M GI (hr.mono (by decide)) rfl (Or.inl rfl) passL (pv 2))))))), ?_⟩
  refine go_ifS (b := false) fr (b_not (b_val (e_isiS (K := K) (e_var rfl (.str (txr ks)))))) (fun z => by cases z) fun _ H1 s1 fr1 => ?_
  have neg : ∀ {σ : L2.St} {F : Hp}, EvD (tUn (rU fun i => .int (-i)) (tC (.int 1))) σ F (.int (-1)) := fun {σ F} S H1 f s Q q => ⟨1, rfl, q _ H1 (Same.refl _) (.int _)⟩
  refine go_setS (P := fun H v => Rp H v (.list (ks.map roD))) fr1 (eqD (e_lcL (enc := fun a : Ro => PyData.str (rowW a)) (as := ks) (b := fun _ => true) (ev := roD) (eqD (e_slL (e_split (e_var rfl (.str (txr ks))) e_str (by decide +kernel) (by have := txr_len g l12; omega)) o_none (o_some neg)) ?_) (by omega) fun a ha x F2 sF r => g_name ⟨rfl, b_yes, fun _ => e_call (a_cons (e_var rfl r) a_nil) ⟨a, rfl, g a ha, rfl⟩⟩) (by rw [filter_yes])) fun v2 H2 s2 fr2 r2 => ?_
  · rw [split_txr g, List.map_append, List.map_cons, List.map_nil, cut_last, List.map_map]
    rfl
  have hR : RRowsL [.list (ks.map roD)] (.bool true) := ⟨ks.map roD, true, rfl, by rw [List.length_map]; omega, rfl, ⟨fun _ => hA, fun _ => rfl⟩⟩
  have hX : RTxrL [.list (ks.map roD)] (.str (txr ks)) := ⟨ks, rfl, by omega, g, rfl⟩
  refine go_ifS fr2 (b_or (b_not (b_val (e_call (a_cons (e_var rfl r2) a_nil) hR))) fun _ => b_test (e_neS (e_call (a_cons (eqD (e_sortD (e_var rfl r2) (ros_alike ks) (ros_sortable ks) (fun d hd => ?_) (by rw [List.length_map]; omega)) (by rw [hs])) a_nil) hX) (e_var rfl (.str (txr ks))))) (fun z => ?_) fun _ H3 s3 fr3 => ?_
  · obtain ⟨a, _, rfl⟩ := List.mem_map.mp hd
    exact ro_depth a
  · exfalso
    simp at z
  · exact go_ret (P := TV C ks) fr3 (e_clsStar (N := N) rfl (e_var rfl (r2.mono (offS_mono (S := S) s3))) hA hs) fun v H4 s4 p4 => q v H4 (s1.trans (s2.trans (s3.trans s4))) p4
end
end Q

set_option maxHeartbeats 400000
namespace Q
open PySem PySem.Spec PyProof.Rows L2 Ca
/-! ### table_within_limits, with its exception -/
/-- what the top has written of an exception's class (at N) -/
structure XT (K : PySem.W.Frag) (mg : PySem.Str → Option Value) (x : PySem.Str) (N : Addr) : Prop where
  gN : mg x = some (.ref N)
  xN : PySem.W.excIn K N [.type "ValueError", .type "Exception", .type "BaseException", .type "object"] "ValueError.__new__" = true
  kN : PySem.W.keepIn K (.ref N) = true
  bN : PySem.W.subIn K (.ref N) (.type "BaseException") = some true
  tN : PySem.W.typeIn K (.ref N) = some (.type "type")
def spTwlX (C N : Addr) : Sp := fun vs H Q E => ∃ (S : Addr → Bool) (v : V) (ds : List PyData) (b : Bool), vs = [v] ∧ Fr S H ∧ Rp (offS S H) v (.list ds) ∧ ds.length ≤ 1000 ∧ (b = true ↔ AreR ds) ∧ (b = false → ∀ H', Same H H' → E (.ref N) none H') ∧
  ∀ rs ks : List Ro, b = true → ds = rs.map roD → srtD ds = ks.map roD → ks.Perm rs → ∀ v H', Same H H' → TV C ks (offS S H') v → Q v H'
section
variable {P : Program} {w : World} {K : PySem.W.Frag} {mg : PySem.Str → Option Value} {base : Heap}
theorem ok_twlX {f C N NX fI : Addr} {fd : FuncData} (F : FnP K "table_within_limits" s_twl f fd) (M : Mk K C fI) (GI : FnR P w K mg base (L2.CX P w) 6 fI (spTInitR C N)) (gC : mg "Table" = some (.ref C)) (XT1 : XT K mg "TooMuch" NX) (D1 : Fd P w K mg base "are_rows" 5 ["things"] (spR RRowsL)) :
    FnOk P w K mg base (L2.CX P w) 8 f fd ["rows"] (spTwlX C NX) := by
  obtain ⟨f1, fd1, G1, b1, k1, m1⟩ := D1.ex
  refine F.ok sc_twl (fun vs H Q E h => ?_) (fun cdv A outer s H vs Q E hr h => ?_)
  · obtain ⟨S, v, ds, b, rfl, _⟩ := h
    rfl
  obtain ⟨S, v0, ds, b, rfl, fr, r0, hz, hb, kE, kQ⟩ := h
  refine ⟨_, pss_cons (ps_if (pt_not (pt_val (pe_call G1 (hr.mono (by decide)) rfl m1 k1 b1 .nil pass0 (pa_cons (pv 0) pa_nil))))
    (pss_one (ps_raise rfl (takes_of rfl rfl rfl rfl) (pmk_own PySem.F.excBase_ValueError XT1.xN XT1.gN XT1.kN (raises_own XT1.bN XT1.tN) rfl))) pss_nil) (pss_one (ps_ret (pe_glbStar M GI (hr.mono (by decide)) rfl gC passL (pv 0)))), ?_⟩
  refine go_ifS (b := !b) fr (b_not (b_val (e_call (a_cons (e_var rfl r0) a_nil) ⟨ds, b, rfl, hz, rfl, hb⟩))) (fun z H1 s1 f1 => kE (by simpa using z) H1 s1) fun z H1 s1 fr1 => ?_
  have bt : b = true := by simpa using z
  have hA := hb.mp bt
  obtain ⟨l12, rs, rfl, g, nd⟩ := hb.mp bt
  obtain ⟨ks, es, pks⟩ := srt_rows rs
  exact go_ret (P := TV C ks) fr1 (e_tabStar (N := N) (e_var rfl (r0.mono (offS_mono (S := S) s1))) hA es) fun v H2 s2 p2 => kQ rs ks bt rfl es pks v H2 (s1.trans s2) p2
end
end Q

set_option maxHeartbeats 400000
namespace Q
open PySem PySem.Spec PyProof.Rows L2 Ca
/-! ### choices -/
theorem tv_rows {C : Addr} {ks : List Ro} : ∀ F v, TV C ks F v → ITRows C F [v] (fun H v => Rp H v (.tuple (ks.map roD))) ∧ ∃ a dx fs, v = .ref a ∧ F a = some (.ins C dx fs) := fun F v h => by
  refine ⟨⟨v, ks, rfl, h, rfl⟩, ?_⟩
  obtain ⟨x, dx, o, e, h1, _⟩ := h
  exact ⟨x, dx, _, e, h1⟩
abbrev CW : Type := List (Int × Int) × Int
def cwD (c : CW) : PyData := .tuple [.dict (c.1.map iD), .int c.2]
def agR (ns : List (Int × Int)) (a : At) (r : Ro) : Bool := agB ns a.k a.l a.r r.k r.l r.r
def nxt (a : At) (c : CW) (r : Ro) : CW := (mergeI c.1 (mergeI [] [(a.l, r.l), (a.r, r.r)]), c.2 * r.n)
def stepC (ks : List Ro) (a : At) (f : List CW) : List CW := f.flatMap fun c => (ks.filter fun r => agR c.1 a r).map (nxt a c)
def chs (as : List At) (ks : List Ro) : List CW := as.foldl (fun f a => stepC ks a f) [([], 1)]
theorem chs_snoc (as : List At) (a : At) (ks : List Ro) : chs (as ++ [a]) ks = stepC ks a (chs as ks) := by
  unfold chs
  rw [List.foldl_append]
  rfl
theorem step_len (ks : List Ro) (a : At) : ∀ f : List CW, (stepC ks a f).length ≤ f.length * ks.length
  | [] => by simp [stepC]
  | c :: f => by
    have e : stepC ks a (c :: f) = (ks.filter fun r => agR c.1 a r).map (nxt a c) ++ stepC ks a f := rfl
    rw [e, List.length_append, List.length_map, List.length_cons, Nat.add_mul]
    have h1 := List.length_filter_le (fun r => agR c.1 a r) ks
    have h2 := step_len ks a f
    omega
theorem step_mem {ks : List Ro} {a : At} {f : List CW} {d : CW} (h : d ∈ stepC ks a f) : ∃ c ∈ f, ∃ r ∈ ks, d = nxt a c r := by
  obtain ⟨c, hc, h⟩ := List.mem_flatMap.mp h
  obtain ⟨r, hr, rfl⟩ := List.mem_map.mp h
  exact ⟨c, hc, r, (List.mem_filter.mp hr).1, rfl⟩
theorem chs_ok {ks : List Ro} (g : ∀ a ∈ ks, GoodR a) : ∀ as : List At, (chs as ks).length ≤ ks.length ^ as.length ∧ ∀ c ∈ chs as ks, 0 ≤ c.2 ∧ c.2 ≤ 10000 ^ as.length ∧ c.1.length ≤ 2 * as.length := fun as => by
  induction h : as.length generalizing as with
  | zero =>
    have e : as = [] := List.eq_nil_of_length_eq_zero h
    subst e
    refine ⟨by simp [chs], fun c hc => ?_⟩
    have e : c = ([], 1) := by simpa [chs] using hc
    rw [e]
    decide
  | succ n ih =>
    obtain ⟨bs, b, rfl⟩ : ∃ bs b, as = bs ++ [b] := by
      have ne : as ≠ [] := fun z => by rw [z] at h; cases h
      exact ⟨as.dropLast, as.getLast ne, (List.dropLast_concat_getLast ne).symm⟩
    rw [List.length_append] at h
    have hb : bs.length = n := by simpa using h
    obtain ⟨i1, i2⟩ := ih bs hb
    rw [chs_snoc]
    refine ⟨?_, fun d hd => ?_⟩
    · have h1 := step_len ks b (chs bs ks)
      rw [Nat.pow_succ]
      exact Nat.le_trans h1 (Nat.mul_le_mul_right _ i1)
    · obtain ⟨c, hc, r, hr, rfl⟩ := step_mem hd
      obtain ⟨j1, j2, j3⟩ := i2 c hc
      have gr := g r hr
      have p0 : (0 : Int) ≤ 10000 ^ n := Int.le_trans j1 j2
      refine ⟨?_, ?_, ?_⟩
      · exact Int.mul_nonneg j1 (by have := gr.n1; omega)
      · show c.2 * r.n ≤ 10000 ^ (n + 1)
        rw [Int.pow_succ]
        exact Int.mul_le_mul j2 gr.n9 (by have := gr.n1; omega) p0
      · show (mergeI c.1 (mergeI [] [(b.l, r.l), (b.r, r.r)])).length ≤ 2 * (n + 1)
        have h1 := mergeI_len (mergeI [] [(b.l, r.l), (b.r, r.r)]) c.1
        have h2 := mergeI_len [(b.l, r.l), (b.r, r.r)] []
        simp only [List.length_cons, List.length_nil] at h2
        omega
theorem pow_small {m n j : Nat} (h : m ^ n ≤ 90000) (hj : j ≤ n) : m ^ j ≤ 90000 := by
  cases m with
  | zero =>
    cases j with
    | zero => decide
    | succ j => simp
  | succ m => exact Nat.le_trans (Nat.pow_le_pow_right (Nat.succ_pos m) hj) h
abbrev s_chs : Stmt := top 45
abbrev nChs : List PySem.Str := ["question", "table", "found", "atom", "chosen", "weight", "row"]
theorem sc_chs : FnScope nChs ["question", "table"] (defScope s_chs) := ⟨rfl, rfl, rfl, by decide +kernel, rfl, by decide +kernel, by decide +kernel⟩
def IChs (C D : Addr) : Hp → List V → (Hp → V → Prop) → Prop := fun F vs P => ∃ vq vt as ks, vs = [vq, vt] ∧ QV C as F vq ∧ TV D ks F vt ∧ as.length ≤ 4 ∧ ks.length ≤ 12 ∧ (∀ a ∈ ks, GoodR a) ∧ ks.length ^ as.length ≤ 90000 ∧ P = fun H v => Rp H v (.list ((chs as ks).map cwD))
section
variable {P : Program} {w : World} {K : PySem.W.Frag} {mg : PySem.Str → Option Value} {base : Heap}
theorem ok_chs {f C N D N2 pA fA pR fR : Addr} {fd fdA fdR : FuncData} (F : FnP K "choices" s_chs f fd) (TQ : QT K mg C N) (TT2 : TT K mg D N2) (D1 : Fd P w K mg base "agrees" 1 ["chosen", "atom", "row"] (spR RAg))
    (GA : FnOk P w K mg base CX0 1 fA fdA ["self"] (spQ (IAtoms C))) (bA : Binds K fdA ["self"] []) (hA : PropOf K C "atoms" pA fA) (GR : FnOk P w K mg base CX0 1 fR fdR ["self"] (spQ (ITRows D))) (bR : Binds K fdR ["self"] []) (hR : PropOf K D "rows" pR fR) :
    FnOk P w K mg base CX0 3 f fd ["question", "table"] (spQ (IChs C D)) := by
  obtain ⟨f1, fd1, G1, b1, k1, m1⟩ := D1.ex
  refine F.ok sc_chs (spQ_len (by rintro _ _ _ ⟨vq, vt, as, ks, rfl, _⟩; rfl)) (fun cdv A outer s H vs Q E hr h => ?_)
  obtain ⟨S, P0, fr, ⟨vq, vt, as, ks, rfl, qv, tv, l4, lk, g, hz, rfl⟩, q⟩ := h
  refine ⟨_, PSs.nox (pss_cons (ps_set (i := 2) sc_chs.nd rfl (.inl rfl) (pe_lst (pa_cons (pe_tup (pa_cons pe_dnewK (pa_cons pe_int pa_nil))) pa_nil)))
    (pss_cons (ps_for PassesOwn.never rfl (pi_tupQ (K := K) rfl (pe_prop (pv 0) TQ.cl hA GA (hr.mono (by decide)) bA .nil pass0 rfl)) (pg_name (i := 3) sc_chs.nd rfl (.inr rfl)) (pss_one
      (ps_setLc2 (i := 2) (own := [("chosen", 4), ("weight", 5), ("row", 6)]) (vs1 := [6]) (g := gTup K 2 (gCons (gName 4) (gCons (gName 5) gNil))) (g1 := gName 6) (by rfl) sc_chs.nd rfl rfl (sw_true rfl rfl rfl (by decide +kernel)) (pi_listQ (K := K) rfl (pv 2))
        (blkOk_by (own := [("chosen", 4), ("weight", 5), ("row", 6)]) (N := nChs) (sc := defScope s_chs) (by decide +kernel)) (by decide)
        (fun _ _ _ _ _ => pg_tup (by rfl) (pgs_cons (pg_name (i := 4) sc_chs.nd rfl (Or.inl rfl)) (pgs_cons (pg_name (i := 5) sc_chs.nd rfl (Or.inl rfl)) pgs_nil))) (fun _ _ _ _ _ => pts_nil) (fun _ _ _ _ _ => pi_tupQ (K := K) rfl (pe_prop (pv 1) TT2.cl hR GR (hr.mono (by decide)) bR .nil pass0 rfl)) (fun _ _ _ _ _ => pg_name (i := 6) sc_chs.nd rfl (Or.inl rfl))
        (fun _ _ _ _ _ => pts_one (pt_val (pe_call G1 (hr.mono (by decide)) rfl m1 k1 b1 .nil pass0 (pa_cons (pv 4) (pa_cons (pv 3) (pa_cons (pv 6) pa_nil))))))
        (fun _ _ _ _ _ => pe_tup (pa_cons (pe_dispS (pv 4) (pps_cons (pe_ix (ix_tup : IxR _ (rIxT K)) (pv 3) pe_int (fun _ _ => rfl)) (pe_ix (ix_tup : IxR _ (rIxT K)) (pv 6) pe_int (fun _ _ => rfl)) (pps_cons (pe_ix (ix_tup : IxR _ (rIxT K)) (pv 3) pe_int (fun _ _ => rfl)) (pe_ix (ix_tup : IxR _ (rIxT K)) (pv 6) pe_int (fun _ _ => rfl)) pps_nil)) rfl rfl (by simp) (by decide)) (pa_cons (pe_op op_mul (pv 5) (pe_ix (ix_tup : IxR _ (rIxT K)) (pv 6) pe_int (fun _ _ => rfl))) pa_nil))))))
    (pss_one (ps_ret (pv 2))))), ?_⟩
  refine go_setS (P := fun H v => Rp H v (.list ((chs (as.take 0) ks).map cwD))) fr (eqD (e_lst (a_cons (e_tup (a_cons e_dic (a_cons e_int a_nil))) a_nil)) rfl) fun vF0 H1 s1 fr1 rF0 => ?_
  have qv1 := qv.mono (offS_mono (S := S) s1)
  have tv1 := tv.mono (offS_mono (S := S) s1)
  refine go_forTS (enc := atD) (as := as) fr1 (e_prop (e_varP rfl fun _ s => qv1.mono s) qv_atoms) fun H2 s2 fr2 => ⟨fun i σ H' => ∃ vF x3 x4 x5 x6, σ = [some vq, some vt, some vF, x3, x4, x5, x6] ∧ Fr S H' ∧ Same H2 H' ∧ Rp (offS S H') vF (.list ((chs (as.take i) ks).map cwD)),
    ⟨vF0, none, none, none, none, rfl, fr2, Same.refl _, rF0.mono (offS_mono s2)⟩, ?_, ?_, ?_⟩
  · rintro i σ H' ⟨vF, x3, x4, x5, x6, rfl, f', s', _⟩
    exact ⟨f', offS_mono s'⟩
  · rintro i a x σ H3 hi ra ⟨vF, x3, x4, x5, x6, rfl, fr3, s3, rF⟩
    have li : i < as.length := (List.getElem?_eq_some_iff.mp hi).1
    have e1 : chs (as.take (i + 1)) ks = stepC ks a (chs (as.take i) ks) := by rw [take_more hi, chs_snoc]
    have e2 : ((chs (as.take i) ks).flatMap fun c => (ks.filter fun r => agR c.1 a r).map fun r => cwD (nxt a c r)) = (chs (as.take (i + 1)) ks).map cwD := by
      rw [e1]
      unfold stepC
      rw [List.map_flatMap]
      congr 1
      funext c
      rw [List.map_map]
      rfl
    have lt : (as.take (i + 1)).length = i + 1 := by rw [List.length_take]; omega
    have lt0 : (as.take i).length = i := by rw [List.length_take]; omega
    have tv3 := (tv1.mono (offS_mono (S := S) s2)).mono (offS_mono (S := S) s3)
    refine go_set (P := fun H v => Rp H v (.list ((chs (as.take (i + 1)) ks).map cwD))) fr3 (eqD (e_lc2G (enc := cwD) (as := chs (as.take i) ks) (bs := fun _ => ks) (enc1 := roD) (c := fun c r => agR c.1 a r) (ev2 := fun c r => cwD (nxt a c r)) (it_list (e_var rfl rF)) ?_
      fun c hc y F1 sF1 rC => g_tup2 rC fun w4 w5 r4 r5 => ⟨rfl, b_yes, it_tup (e_prop (e_varP rfl fun _ s => (tv3.mono sF1).mono s) tv_rows), fun r hr2 z F2 sF2 rR => g_name ⟨rfl, ?_, fun _ => ?_⟩⟩) (by rw [e2])) fun v4 H4 s4 fr4 r4 => ⟨v4, _, _, _, _, rfl, fr4, s3.trans s4, r4⟩
    · rw [e2, List.length_map]
      have := (chs_ok g (as.take (i + 1))).1
      rw [lt] at this
      exact Nat.le_trans this (pow_small hz (by omega))
    · exact b_val (e_call (a_cons (e_var rfl (r4.mono sF2)) (a_cons (e_var rfl ((ra.mono sF1).mono sF2)) (a_cons (e_var rfl rR) a_nil))) ⟨c.1, a.k, a.l, a.r, r.k, r.l, r.r, [.int r.n], rfl, rfl⟩)
    · have r42 := r4.mono sF2
      have r52 := r5.mono sF2
      have rA := (ra.mono sF1).mono sF2
      have ok := (chs_ok g (as.take i)).2 c hc
      rw [lt0] at ok
      exact e_tup (a_cons (e_dispS (e_var rfl r42) (by omega) (e_ixT (n := 1) (e_var rfl rA) e_int rfl rfl) (e_ixT (n := 1) (e_var rfl rR) e_int rfl rfl) (e_ixT (n := 2) (e_var rfl rA) e_int rfl rfl) (e_ixT (n := 2) (e_var rfl rR) e_int rfl rfl)) (a_cons (e_mul (e_var rfl r52) (e_ixT (n := 3) (e_var rfl rR) e_int rfl rfl) (.inr ⟨by have := (g r hr2).n1; omega, by have := (g r hr2).n9; omega⟩)) a_nil))
  · rintro σ H3 ⟨vF, x3, x4, x5, x6, rfl, fr3, s3, rF⟩
    rw [List.take_length] at rF
    exact go_ret (P := fun H v => Rp H v (.list ((chs as ks).map cwD))) fr3 (e_var rfl rF) fun v H4 s4 r4 => q v H4 (s1.trans (s2.trans (s3.trans s4))) r4
end
end Q

set_option maxHeartbeats 400000
namespace Q
open PySem PySem.Spec PyProof.Rows L2 Ca
/-! ### count_of -/
abbrev s_cnt : Stmt := top 46
abbrev nCnt : List PySem.Str := ["question", "table", "chosen", "weight"]
theorem sc_cnt : FnScope nCnt ["question", "table"] (defScope s_cnt) := ⟨rfl, rfl, rfl, by decide +kernel, rfl, by decide +kernel, by decide +kernel⟩
theorem bSum : bootBuiltins "sum" = some (.builtin "sum") := by decide +kernel
def cntC (as : List At) (ks : List Ro) : Int := ((chs as ks).map (·.2)).sum
def ICnt (C D : Addr) : Hp → List V → (Hp → V → Prop) → Prop := fun F vs P => ∃ vq vt as ks, vs = [vq, vt] ∧ QV C as F vq ∧ TV D ks F vt ∧ as.length ≤ 4 ∧ ks.length ≤ 12 ∧ (∀ a ∈ ks, GoodR a) ∧ ks.length ^ as.length ≤ 90000 ∧ P = fun H v => Rp H v (.int (cntC as ks))
theorem e_call2 {σ : L2.St} {F : Hp} {ta tb : TE} {P P0 P1 : Hp → V → Prop} {E : XK} {I : Hp → List V → (Hp → V → Prop) → Prop} (h : EvP ta σ F P0) (hm : ∀ F F' v, Same F F' → P0 F v → P0 F' v) (h2 : EvP tb σ F P1) (hi : ∀ F v u, P0 F v → P1 F u → I F [v, u] P) : EvP (tCall (spQ I) [] E (tCons ta (tCons tb tNil))) σ F P := fun S H1 f s Q q =>
  h S H1 f s _ fun v H2 s2 p => h2 S H2 (f.mono s2) (s.trans (offS_mono s2)) _ fun u H3 s3 p3 => ⟨S, P, f.mono (s2.trans s3), hi _ v u (hm _ _ _ (offS_mono s3) p) p3, fun v H4 s4 p4 => q v H4 ((s2.trans s3).trans s4) p4⟩
section
variable {P : Program} {w : World} {K : PySem.W.Frag} {mg : PySem.Str → Option Value} {base : Heap}
theorem ok_cnt {f C D : Addr} {fd : FuncData} (F : FnP K "count_of" s_cnt f fd) (gS : mg "sum" = none) (D1 : Fd P w K mg base "choices" 3 ["question", "table"] (spQ (IChs C D))) : FnOk P w K mg base CX0 5 f fd ["question", "table"] (spQ (ICnt C D)) := by
  obtain ⟨f1, fd1, G1, b1, k1, m1⟩ := D1.ex
  refine F.ok sc_cnt (spQ_len (by rintro _ _ _ ⟨vq, vt, as, ks, rfl, _⟩; rfl)) (fun cdv A outer s H vs Q E hr h => ?_)
  obtain ⟨S, P0, fr, ⟨vq, vt, as, ks, rfl, qv, tv, l4, lk, g, hz, rfl⟩, q⟩ := h
  refine ⟨_, PSs.nox (pss_one (ps_ret (pe_callB (cr_sum rfl : CallR _ _ (rSum K)) (by rfl) gS bSum (pa_cons (pe_lc (own := [("chosen", 2), ("weight", 3)]) (g := gTup K 2 (gCons (gName 2) (gCons (gName 3) gNil))) rfl sc_cnt.nd
    (pi_listQ (K := K) rfl (pe_call G1 (hr.mono (by decide)) rfl m1 k1 b1 .nil pass0 (pa_cons (pv 0) (pa_cons (pv 1) pa_nil)))) (blkOk_by (own := [("chosen", 2), ("weight", 3)]) (N := nCnt) (sc := defScope s_cnt) (by decide +kernel))
    (fun _ _ _ _ _ => pg_tup (by rfl) (pgs_cons (pg_name (i := 2) sc_cnt.nd rfl (Or.inl rfl)) (pgs_cons (pg_name (i := 3) sc_cnt.nd rfl (Or.inl rfl)) pgs_nil))) (fun _ _ _ _ _ => pts_nil) (fun _ _ _ _ _ => pv 3)) pa_nil)))), ?_⟩
  refine go_ret (te := tCB (rSum K) (tCons (tLc (iList K (tCall (spQ (IChs C D)) [] E0 (tCons (tVar 0) (tCons (tVar 1) tNil)))) (gTup K 2 (gCons (gName 2) (gCons (gName 3) gNil))) tYes (tVar 3) [2, 3]) tNil)) (D := { nx := fun x H' => Q V.non H', rt := Q }) (P := fun H v => Rp H v (.int (cntC as ks))) fr ?h q
  refine eqD (e_sum (K := K) (ds := ((chs as ks).filter fun _ => true).map fun c => .int c.2) (e_lcL (K := K) (enc := cwD) (as := chs as ks) (b := fun _ => true) (ev := fun c => .int c.2) (e_call2 (P0 := QV C as) (P1 := TV D ks) (e_varP rfl fun _ sm => qv.mono sm) (fun _ _ _ sm z => z.mono sm) (e_varP rfl fun _ sm => tv.mono sm) fun F v u z1 z2 => ⟨v, u, as, ks, rfl, z1, z2, l4, lk, g, hz, rfl⟩)
    (Nat.le_trans (chs_ok g as).1 hz) fun c hc x F2 sF rx => g_tup2 rx fun v1 v2 r1 r2 => ⟨rfl, b_yes, fun _ => e_var rfl r2⟩) fun d hd => ?_) ?_
  · obtain ⟨a, _, rfl⟩ := List.mem_map.mp hd
    exact ⟨_, rfl⟩
  · rw [filter_yes, List.map_map]
    rfl
end
end Q

set_option maxHeartbeats 400000
namespace Q
open PySem PySem.Spec PyProof.Rows L2 Ca
/-! ### check_table of a table, question(table) -/
structure IsC1 (K : PySem.W.Frag) (C : Addr) : Prop where
  ha : PySem.W.findIn K (.ref C) "__class__" = some (some (.builtin "object.__class__"))
  hn : PySem.W.specialIn K (.builtin "object.__class__") "__get__" = some (some (.builtin "getset_descriptor.__get__"))
  htk : PySem.W.takesIn K (.builtin "object.__class__") = some true
  hm : PySem.W.mroIn K C (.type "object") = some true
  kit : PySem.W.kitOne K (.ref C) (.ref C) = some true
theorem TV.ty1 {K : PySem.W.Frag} {C : Addr} {ks : List Ro} {F : Hp} {v : V} (cl : Cls K C) (ic : IsC1 K C) (h : TV C ks F v) : TyX K F v (.ref C) := by
  obtain ⟨x, dx, o, rfl, hx, _⟩ := h
  exact .base (.ins hx cl ic.ha ic.hn ic.htk ic.hm)
theorem e_isiC1 {K : PySem.W.Frag} {σ : L2.St} {F : Hp} {ta te : TE} {C : Addr} {ks : List Ro} (cl : Cls K C) (ic : IsC1 K C) (h : EvP ta σ F (TV C ks)) (hc : EvP te σ F fun _ v => v = .ref C) :
    EvD (tCB (rIsi K) (tCons ta (tCons te tNil))) σ F (.bool true) := fun S H1 f s Q q =>
  h S H1 f s _ fun v H2 s2 p => hc S H2 (f.mono s2) (s.trans (offS_mono s2)) _ fun w H3 s3 ew => by
    subst ew
    exact ⟨_, _, _, _, true, rfl, .own C, ((p.mono (offS_mono s3)).mono offS_same).ty1 cl ic, ic.kit, q _ H3 (s2.trans s3) (.bl _)⟩
abbrev s_ck : Stmt := top 32
theorem sc_ck : FnScope ["thing"] ["thing"] (defScope s_ck) := ⟨rfl, rfl, rfl, by decide +kernel, rfl, by decide +kernel, by decide +kernel⟩
def ICk (C : Addr) : Hp → List V → (Hp → V → Prop) → Prop := fun F vs P => ∃ v ks, vs = [v] ∧ TV C ks F v ∧ P = fun _ _ => True
abbrev s_qcall : Stmt := inClass cQ 10
theorem sc_qcall : FnScope ["self", "table"] ["self", "table"] (defScope s_qcall) := ⟨rfl, rfl, rfl, by decide +kernel, rfl, by decide +kernel, by decide +kernel⟩
section
variable {P : Program} {w : World} {K : PySem.W.Frag} {mg : PySem.Str → Option Value} {base : Heap}
theorem ok_ck1 {f C N : Addr} {fd : FuncData} (F : FnP K "check_table" s_ck f fd) (T : Tx K mg) (TQ : TT K mg C N) (ic : IsC1 K C) (gC : mg "Table" = some (.ref C)) : FnOk P w K mg base CX0 1 f fd ["thing"] (spQ (ICk C)) := by
  refine F.ok sc_ck (spQ_len (by rintro _ _ _ ⟨v, ks, rfl, _⟩; rfl)) (fun cdv A outer s H vs Q E hr h => ?_)
  obtain ⟨S, P0, fr, ⟨v, ks, rfl, tv, rfl⟩, q⟩ := h
  refine ⟨_, PSs.nox (pss_one (ps_if (pt_not (pt_val (pe_callB (call_isi : CallR _ _ (rIsi K)) (by rfl) T.isi bIsi (pa_cons (pv 0) (pa_cons (pe_glob (v := .ref C) rfl gC rfl) pa_nil))))) pss_never pss_nil)), ?_⟩
  exact go_if (b := !true) fr (b_not (b_val (e_isiC1 (K := K) TQ.cl ic (e_varP rfl fun _ sm => tv.mono sm) (fun S H1 f s Q q => q _ H1 (Same.refl _) rfl)))) (fun z => by cases z) fun z H1 s1 fr1 => q _ H1 s1 trivial
theorem ok_qcall {f C D : Addr} {fd : FuncData} (F : FnM K "__call__" "Question.__call__" s_qcall f fd) (D1 : Fd P w K mg base "check_table" 1 ["thing"] (spQ (ICk D))) (D2 : Fd P w K mg base "count_of" 5 ["question", "table"] (spQ (ICnt C D))) : FnOk P w K mg base CX0 6 f fd ["self", "table"] (spQ (ICnt C D)) := by
  obtain ⟨f1, fd1, G1, b1, k1, m1⟩ := D1.ex
  obtain ⟨f2, fd2, G2, b2, k2, m2⟩ := D2.ex
  refine F.ok sc_qcall (spQ_len (by rintro _ _ _ ⟨vq, vt, as, ks, rfl, _⟩; rfl)) (fun cdv A outer s H vs Q E hr h => ?_)
  obtain ⟨S, P0, fr, ⟨vq, vt, as, ks, rfl, qv, tv, l4, lk, g, hz, rfl⟩, q⟩ := h
  refine ⟨_, PSs.nox (pss_cons (ps_expr (pe_call G1 (hr.mono (by decide)) rfl m1 k1 b1 .nil pass0 (pa_cons (pv 1) pa_nil)))
    (pss_one (ps_ret (pe_call G2 (hr.mono (by decide)) rfl m2 k2 b2 .nil pass0 (pa_cons (pv 0) (pa_cons (pv 1) pa_nil)))))), ?_⟩
  refine e_call1 (P := fun _ _ => True) (P0 := TV D ks) (e_varP rfl fun _ sm => tv.mono sm) (fun F v z => ⟨v, ks, rfl, z, rfl⟩) S H fr (Same.refl _) _ fun v1 H1 s1 p1 => ?_
  have qv1 := qv.mono (offS_mono (S := S) s1)
  have tv1 := tv.mono (offS_mono (S := S) s1)
  exact go_ret (P := fun H v => Rp H v (.int (cntC as ks))) (fr.mono s1) (e_call2 (P0 := QV C as) (P1 := TV D ks) (e_varP rfl fun _ sm => qv1.mono sm) (fun _ _ _ sm z => z.mono sm) (e_varP rfl fun _ sm => tv1.mono sm) fun F v u z1 z2 => ⟨v, u, as, ks, rfl, z1, z2, l4, lk, g, hz, rfl⟩) fun v H4 s4 r4 => q v H4 (s1.trans s4) r4
end
/-- question(table) -/
theorem e_qcall {X : Cx} {σ : L2.St} {F : Hp} {tq tt : TE} {C D : Addr} {as : List At} {ks : List Ro} {E : XK} (h : EvP tq σ F (QV C as)) (h2 : EvP tt σ F (TV D ks)) (l4 : as.length ≤ 4) (lk : ks.length ≤ 12) (g : ∀ a ∈ ks, GoodR a) (hz : ks.length ^ as.length ≤ 90000) :
    EvD (StX.tCallO X C (spQ (ICnt C D)) E tq (tCons tt tNil)) σ F (.int (cntC as ks)) := fun S H1 f s Q q =>
  h S H1 f s _ fun v H2 s2 p => by
    have p' := p
    obtain ⟨x, dx, pp, rfl, hq⟩ := p
    refine ⟨x, rfl, h2 S H2 (f.mono s2) (s.trans (offS_mono s2)) _ fun u H3 s3 p3 => ?_⟩
    have q3 := p'.mono (offS_mono (S := S) s3)
    refine ⟨.inr ?_, S, _, f.mono (s2.trans s3), ⟨_, u, as, ks, rfl, q3, p3, l4, lk, g, hz, rfl⟩, fun v H4 s4 r4 => q v H4 ((s2.trans s3).trans s4) r4⟩
    obtain ⟨o, uu, ns, h1, _⟩ := hq.obj
    exact ⟨dx, _, s3 _ _ (offS_same _ _ h1)⟩
end Q

set_option maxHeartbeats 400000
namespace Ca
open PySem PySem.Spec PyProof.Rows L2
/-! own operators: x op y, x an instance whose class has the operator as a def, y another one or data -/
def tyN : List String := ["NoneType", "bool", "int", "str", "list", "tuple", "dict"]
structure OwnOp (K : PySem.W.Frag) (C f : Addr) (op : Operator) : Prop where
  first : PySem.W.selfFirst K C = true
  has : PySem.W.findIn K (.ref C) (PySem.dunder op.info.2) = some (some (.ref f))
  fn : PySem.W.isFn K (.ref f) = true
  rev : PySem.W.findIn K (.ref C) (dunderR op.info.2) = some none
  other : ∀ T ∈ tyN, (∃ fo, PySem.W.findIn K (.type T) (PySem.dunder op.info.2) = some fo) ∧ (∃ ro, PySem.W.findIn K (.type T) (dunderR op.info.2) = some ro) ∧ PySem.W.subIn K (.type T) (.ref C) = some false
open PySem.W in
theorem own_bin {P : Program} {w : World} {A : Around} {E : Value → Shared → Prop} {s : Shared} {K : PySem.W.Frag} {x C L f : Addr} {h₀ : Heap} {m : PySem.Str → Option Value} {ox : Obj} {od : Option Obj} {op : Operator} {b : Value} {T : String} {Q : Value → Shared → Prop}
    (fr : PyProof.Rows.Fr h₀ L s.heap m) (kin : K.In h₀) (J : InstAt s.heap x ox C od) (o : OwnOp K C f op) (hT : T ∈ tyN) (lb : Looks (model P w) s.heap (typeOf b) (.type T))
    (go : wpAny (model P w) A (call (.ref f) [.ref x, b]) (PySem.W.CmpBack Q) E s) : wpAny (model P w) A (binaryOp op (.ref x) b) Q E s := by
  obtain ⟨⟨fo, e1⟩, ⟨ro, e2⟩, e3⟩ := o.other T hT
  have kh := kin.keeps fr.keep
  obtain ⟨cd, rest, c1, c2⟩ := ksp_first o.first
  have hs := o.has
  have hr := o.rev
  rcases ei : op.info with ⟨sy, nm⟩
  rw [ei] at hs hr e1 e2
  dsimp only at hs hr e1 e2
  have tm := ksp_try kh J hs o.fn go
  obtain ⟨hh, gg, dd, tt, oo⟩ := s
  have a1 : Looks (model P w) hh (typeOf (.ref x)) (.ref C) := J.type
  have a2 : Looks (model P w) hh (typeOf b) (.type T) := lb
  have a3 : Looks (model P w) hh (fillsNumberSlot (.ref C) nm) true := fills_K kh c1 c2 hs
  have a4 : Looks (model P w) hh (fillsNumberSlot (.type T) nm) ((fo.isSome && !isSeqSlot fo) || (ro.isSome && !isSeqSlot ro)) := ksp_fillsT kh e1 e2
  have a5 : Looks (model P w) hh (isSubtype (.type T) (.ref C)) false := looks_subIn kh e3
  have a6 : Looks (model P w) hh (numberSlotInPython (.ref C) nm) true := ksp_inPy kh hs hr (.inl rfl)
  have a7 : Looks (model P w) hh (numberSlotInPython (.type T) nm) false := Looks.of_pure rfl
  have a8 : Looks (model P w) hh (typeLookup (.type T) (dunderR nm)) ro := looks_findIn kh e2
  generalize ((fo.isSome && !isSeqSlot fo) || (ro.isSome && !isSeqSlot ro)) = rt at a4
  have ne : (Value.ref C == Value.type T) = false := by
    cases e : (Value.ref C == Value.type T) with
    | false => rfl
    | true => cases beq_iff_eq.mp e
  simp only [binaryOp, ei]
  refine wpAny_holding (wpAny_bind ?_)
  unfold binaryOp1
  refine wpAny_bind (a1.at (wpAny_bind (a2.at (wpAny_bind (a3.at ?_)))))
  simp only [ne, Bool.false_eq_true, if_false]
  cases rt
  all_goals
    ksp_lk
    refine wpAny_mono tm (fun r s' z => ?_) fun _ _ z => z
    obtain ⟨v, rfl, z2⟩ := z
    ksp_lk
    exact z2
/-- the values that may stand on the right -/
def rOwn (K : PySem.W.Frag) (C : Addr) (sp : Sp) (E : XK) : R2 := fun x y H Q => ∃ a dx fs t, x = .ref a ∧ H a = some (.ins C dx fs) ∧ TyX K H y t ∧ (t = .ref C ∨ ∃ T ∈ tyN, t = .type T) ∧ sp [x, y] H Q E
theorem op_own {X : Cx} {CX : CXT} {k : Nat} {f C : Addr} {fd : FuncData} {ps : List PySem.Str} {sp : Sp} {E : XK} {op : Operator} (o : OwnOp X.K C f op) (F : FnOk X.prog X.w X.K X.mg X.base CX k f fd ps sp) (hb : Binds X.K fd ps []) (hr : Room k X.A) (hx : Passes CX X E) :
    OpR X (binaryOp op) (rOwn X.K C sp E) := by
  intro pins s σ H x y v u Q I rx ry h
  obtain ⟨a, dx, fs, t, rfl, ha, ty, ht, q⟩ := h
  cases (show v = Value.ref a from rx)
  obtain ⟨mA, O, _⟩ := ins_get I.hok ha
  obtain ⟨od, J, _⟩ := O.look
  obtain ⟨m, fr⟩ := I.fr
  have go : wpAny (model X.prog X.w) X.A (call (.ref f) [.ref a, u]) (PySem.W.CmpBack (EP X pins σ Q)) X.xe s := by
    refine wpAny_mono (run_fnS (E := fun _ => E) F hr hb (fun pins H s e s' I c => hx pins σ H s e s' I c) I (.cons rx (.cons ry .nil)) q) (fun r s' z => ?_) fun _ _ z => z
    obtain ⟨vv, H', J', rv, q'⟩ := id z
    cases vv with
    | non => cases (show r = _ from rv); exact z
    | bl b => cases (show r = _ from rv); exact z
    | int i => obtain ⟨t, e⟩ := (show ∃ t, r = Value.int i t from rv); subst e; exact z
    | str i => obtain ⟨t, e⟩ := (show ∃ t, r = Value.str i t from rv); subst e; exact z
    | byt i => obtain ⟨t, e⟩ := (show ∃ t, r = Value.bytes i t from rv); subst e; exact z
    | flt i => obtain ⟨t, e⟩ := (show ∃ t, r = Value.float i t from rv); subst e; exact z
    | ref i => cases (show r = _ from rv); exact z
    | ty i => cases (show r = _ from rv); exact z
  obtain ⟨P, Z, p, _⟩ := kit_of I ry ty
  have lk := Z.ty (model X.prog X.w) s.heap I.kIn p
  rcases ht with e | ⟨T, hT, e⟩
  · rw [e] at lk
    exact PySem.W.binop_K fr I.ok.mod.kin J lk o.first o.has o.fn go
  · rw [e] at lk
    exact own_bin fr I.ok.mod.kin J o hT lk go
end Ca

set_option maxHeartbeats 1000000
namespace Ca
open PySem PySem.Spec PyProof.Rows L2
/-! ways into a written text -/
def noE : Expr := .Constant .none 0 ⟨0, 0, 0, 0⟩
def sBody : Stmt → Nat → List Stmt
  | .For _ _ b _ _, 0 => b
  | .For _ _ _ o _, _ => o
  | .If _ b _ _, 0 => b
  | .If _ _ o _, _ => o
  | .While _ b _ _, 0 => b
  | .While _ _ o _, _ => o
  | .Try b _ _ _ _, 0 => b
  | _, _ => []
def sExpr : Stmt → Expr
  | .Return (some e) _ => e
  | .Assign _ e _ => e
  | .AugAssign _ _ e _ => e
  | .Expr e _ => e
  | .For _ e _ _ _ => e
  | .If e _ _ _ => e
  | .While e _ _ _ => e
  | .Raise (some e) _ _ => e
  | _ => noE
def eSub : Expr → Nat → Expr
  | .BoolOp _ vs _, i => vs.getD i noE
  | .BinOp a _ _ _, 0 => a
  | .BinOp _ _ b _, _ => b
  | .UnaryOp _ a _, _ => a
  | .IfExp t _ _ _, 0 => t
  | .IfExp _ b _ _, 1 => b
  | .IfExp _ _ o _, _ => o
  | .ListComp e _ _ _, 0 => e
  | .ListComp _ gs _ _, 1 => (gs.map (·.iter)).getD 0 noE
  | .ListComp _ gs _ _, 2 => (gs.map (·.iter)).getD 1 noE
  | .ListComp _ gs _ _, n + 3 => ((gs.map (·.ifs)).flatten).getD n noE
  | .SetComp e _ _ _, 0 => e
  | .SetComp _ gs _ _, _ => (gs.map (·.iter)).getD 0 noE
  | .GeneratorExp e _ _ _, 0 => e
  | .GeneratorExp _ gs _ _, _ => (gs.map (·.iter)).getD 0 noE
  | .Compare a _ _ _, 0 => a
  | .Compare _ _ cs _, n + 1 => cs.getD n noE
  | .Call f _ _ _, 0 => f
  | .Call _ as _ _, n + 1 => as.getD n noE
  | .Attribute e _ _, _ => e
  | .Subscript e _ _, 0 => e
  | .Subscript _ e _, _ => e
  | .Starred e _, _ => e
  | .List es _, i => es.getD i noE
  | .Tuple es _ _, i => es.getD i noE
  | .JoinedStr es _, i => es.getD i noE
  | .FormattedValue e _ _ _, _ => e
  | .Slice (some a) _ _ _, 0 => a
  | .Slice _ (some b) _ _, _ => b
  | _, _ => noE
def lcS : Expr → Scope
  | .ListComp _ _ sc _ => sc
  | .SetComp _ _ sc _ => sc
  | .GeneratorExp _ _ sc _ => sc
  | _ => ⟨.function, [], false, false, []⟩
/-! str of a text or of a number -/
def rStrD : List V → Hp → VK → Prop := fun xs H Q => (∃ i, xs = [.int i] ∧ i.natAbs.log2 < 1920 ∧ Q (.str (PySem.Str.ofString (toString i))) H) ∨ ∃ a, xs = [.str a] ∧ Q (.str a) H
theorem call_strD {X : Cx} : CallR X (.type "str") rStrD := fun pins s σ H xs us Q I r h => h.elim (fun z => call_str_int pins s σ H xs us Q I r z) fun z => SkE.call_str_str pins s σ H xs us Q I r z
def shD : PyData → PySem.Str
  | .str x => x
  | .int i => PySem.Str.ofString (toString i)
  | _ => ""
def ShOk : PyData → Prop
  | .str _ => True
  | .int i => i.natAbs.log2 < 1920
  | _ => False
theorem e_strD {σ : L2.St} {F : Hp} {te : TE} {d : PyData} (h : EvD te σ F d) (ok : ShOk d) : EvD (tCB rStrD (tCons te tNil)) σ F (.str (shD d)) := e_cb (a_cons h a_nil) fun S H vs f r Q q => by
  obtain ⟨v, rfl, r1⟩ := rpa1 r
  cases r1 with
  | int i => exact .inl ⟨i, rfl, ok, q _ H (Same.refl _) (.str _)⟩
  | str x => exact .inr ⟨x, rfl, q _ H (Same.refl _) (.str _)⟩
  | _ => exact False.elim ok
/-! a new list that is filled -/
section
variable {K : PySem.W.Frag} {σ : L2.St} {S : Addr → Bool} {H : Hp} {D : L2.Ends} {te : TE} {u : TS} {i : Nat} {p : Addr} {xs : List V} {ds : List PyData} {d : PyData}
theorem go_newL (f : Fr S H) (k : ∀ p H', H p = none → Same H H' → Fr (addS S p) H' → H' p = some (.lst []) → Same (offS S H) (offS (addS S p) H') → u D (σ.set i (some (.ref p))) H') : tSeq (tAsg (tLst tNil) (gName i)) u D σ H :=
  ⟨Nat.zero_le _, fun p hp => by
    have s := same_new (o := .lst []) hp
    have hS : S p = false := f.new hp
    exact k p _ hp s ((f.mono s).add upd_same trivial) upd_same (addS_new (by rw [offS_at hS]; exact hp) (offS_mono s))⟩
theorem small900 {n : Nat} (h : n ≤ 1000) : n < sizeLine := by
  have : 1001 ≤ sizeLine := by decide
  omega
theorem go_ext (f : Fr S H) (hv : σ[i]? = some (some (.ref p))) (hp : H p = some (.lst xs)) (h : EvD te σ (offS S H) (.list ds)) (hz : xs.length + ds.length ≤ 1000)
    (k : ∀ ys H', Same H H' → H' p = some (.lst xs) → RpA (offS S H') ys ds → D.nx σ (upd H' p (.lst (xs ++ ys)))) : tDrop (tBM K "list" rExtend (tVar i) (tCons te tNil)) D σ H :=
  ⟨_, hv, .inl ⟨rfl, _, .inl (.inl hp)⟩, h S H f (Same.refl _) _ fun v H' s r => by
    obtain ⟨b, ys, rfl, h1, r1⟩ := rp_lst r
    refine (⟨p, b, xs, ys, rfl, rfl, s _ _ hp, h1, ?_, k ys H' s (s _ _ hp) r1⟩ : rExtend (.ref p) [.ref b] H' fun _ H1 => D.nx σ H1)
    rw [r1.length]
    exact Nat.le_of_lt (small900 hz)⟩
theorem go_app (f : Fr S H) (hv : σ[i]? = some (some (.ref p))) (hp : H p = some (.lst xs)) (h : EvD te σ (offS S H) d) (hz : xs.length ≤ 900)
    (k : ∀ y H', Same H H' → H' p = some (.lst xs) → Rp (offS S H') y d → D.nx σ (upd H' p (.lst (xs ++ [y])))) : tDrop (tBM K "list" rAppend (tVar i) (tCons te tNil)) D σ H :=
  ⟨_, hv, .inl ⟨rfl, _, .inl (.inl hp)⟩, h S H f (Same.refl _) _ fun v H' s r => 
    ⟨p, xs, v, rfl, rfl, s _ _ hp, small900 (by omega), k v H' s (s _ _ hp) r⟩⟩
theorem Fr.put {o : HO} (f : Fr S H) (m : MutO o) (hp : S p = true) : Fr S (upd H p o) := fun a ha => by
  by_cases e : a = p
  · subst e
    exact ⟨o, upd_same, m⟩
  · rw [upd_ne e]
    exact f a ha
theorem addS_self : addS S p p = true := by simp [addS]
theorem eqA {tas : TA} {F : Hp} {es : List PyData} (h : EvA tas σ F ds) (e : ds = es) : EvA tas σ F es := e ▸ h
theorem pi_enumQ {X : Cx} {e : Expr} {ta : TA} {p pos tpos : Pos} {elts : List Expr} {kk : Nat} (hK : X.K = K) (hg : Gl X "enumerate") (hm : X.mg "enumerate" = none) (ha : PA X [e] ta) (hs : starEach [e] X.env = [(false, eval e X.env)] := by rfl) :
    PI X (.Tuple elts kk tpos) (.Call (.Name "enumerate" p) [e] [] pos) (iEnum K ta) := hK ▸ pi_enum hg hm ha hs
end
end Ca

set_option maxHeartbeats 1000000
namespace Q
open PySem PySem.Spec PyProof.Rows L2 Ca TQ
def MonP (P : Hp → V → Prop) : Prop := ∀ F F' v, Same F F' → P F v → P F' v
theorem mon_rp {d : PyData} : MonP fun H v => Rp H v d := fun _ _ _ s h => h.mono s
theorem mon_qv {C : Addr} {as : List At} : MonP (QV C as) := fun _ _ _ s h => h.mono s
/-- a value told beforehand -/
def tV (v : V) : TE := fun _ H Q => Q v H
theorem e_tV {v : V} {σ : L2.St} {F : Hp} {d : PyData} (r : Rp F v d) : EvD (tV v) σ F d := fun S H1 f s Q q => q v H1 (Same.refl _) (r.mono s)
theorem p_tV {v : V} {σ : L2.St} {F : Hp} {P : Hp → V → Prop} (m : MonP P) (r : P F v) : EvP (tV v) σ F P := fun S H1 f s Q q => q v H1 (Same.refl _) (m _ _ _ s r)
section
variable {K : PySem.W.Frag} {te ta tb t2 : TE} {σ : L2.St} {F : Hp} {P P1 P2 : Hp → V → Prop} {ds : List PyData} {d : PyData}
/-- list(a tuple) -/
theorem e_lstOfT (h : EvD ta σ F (.tuple ds)) : EvD (tCB (rLstQ K) (tCons ta tNil)) σ F (.list ds) := e_cb (a_cons h a_nil) fun S H vs f r Q q => by
  obtain ⟨v, rfl, r1⟩ := rpa1 r
  obtain ⟨a, xs, rfl, h1, r2⟩ := rp_tup r1
  exact ⟨a, xs, rfl, .inr (.inl (.inl h1)), fun p hp => q _ _ (same_new hp) (.lst (offS_new f hp) (r2.mono (offS_mono (same_new hp))))⟩
theorem e_call3 {tc : TE} {P0 P3 : Hp → V → Prop} {E : XK} {I : Hp → List V → (Hp → V → Prop) → Prop} (h : EvP ta σ F P0) (m0 : MonP P0) (h1 : EvP tb σ F P1) (m1 : MonP P1) (h2 : EvP tc σ F P2) (hi : ∀ F v u w, P0 F v → P1 F u → P2 F w → I F [v, u, w] P3) : EvP (tCall (spQ I) [] E (tCons ta (tCons tb (tCons tc tNil)))) σ F P3 := fun S H1 f s Q q =>
  h S H1 f s _ fun v H2 s2 p => h1 S H2 (f.mono s2) (s.trans (offS_mono s2)) _ fun u H3 s3 p3 => h2 S H3 (f.mono (s2.trans s3)) (s.trans (offS_mono (s2.trans s3))) _ fun w H4 s4 p4 =>
    ⟨S, P3, f.mono ((s2.trans s3).trans s4), hi _ v u w (m0 _ _ _ (offS_mono (s3.trans s4)) p) (m1 _ _ _ (offS_mono s4) p3) p4, fun v H5 s5 p5 => q v H5 (((s2.trans s3).trans s4).trans s5) p5⟩
theorem e_notB {a b : Bool} (h : EvD ta σ F (.bool a)) (h2 : EvD tb σ F (.bool b)) : EvD (tOp rNotB ta tb) σ F (.bool (!decide (a = b))) := e_op h h2 fun S H x y f rx ry Q q => by
  cases rx
  cases ry
  exact ⟨_, _, rfl, rfl, q _ H (Same.refl _) (.bl _)⟩
/-- (a word, something) -/
theorem e_tupW {x : PySem.Str} (h : EvP te σ F P) (m : MonP P) : EvP (tTup (tCons (tC (.str x)) (tCons te tNil))) σ F fun H v => ∃ a t, v = .ref a ∧ H a = some (.tup [.str x, t]) ∧ P H t := fun S H1 f s Q q =>
  h S H1 f s _ fun v H2 s2 p => ⟨show 2 ≤ sizeLine by decide, fun p0 hp => by
    have sn := same_new (o := .tup [.str x, v]) hp
    exact q _ _ (s2.trans sn) ⟨p0, v, rfl, offS_new (f.mono s2) hp, m _ _ _ (offS_mono sn) p⟩⟩
end
end Q

set_option maxHeartbeats 400000
namespace Q
open PySem PySem.Spec PyProof.Rows L2 Ca
/-! ### the source of what is drawn -/
def Src (H : Hp) (s : Addr) : Prop := ∃ a b c : Int, H s = some (.lst [.int a, .int b, .int c])
/-- the source may have changed, nothing else -/
structure Stp (H H' : Hp) (s : Addr) : Prop where
  src : Src H' s
  same : ∀ b, b ≠ s → H' b = H b
theorem Stp.refl {H : Hp} {s : Addr} (h : Src H s) : Stp H H s := ⟨h, fun _ _ => rfl⟩
theorem Stp.trans {H H1 H2 : Hp} {s : Addr} (a : Stp H H1 s) (b : Stp H1 H2 s) : Stp H H2 s := ⟨b.src, fun x hx => (b.same x hx).trans (a.same x hx)⟩
theorem Stp.tup {H H' : Hp} {s t : Addr} {xs : List V} (h : Stp H H' s) (hs : Src H s) (ht : H t = some (.tup xs)) : H' t = some (.tup xs) := by
  obtain ⟨a, b, c, hs⟩ := hs
  rw [h.same t (ne_of ht hs (by intro z; cases z))]
  exact ht
theorem stp_upd {H : Hp} {s : Addr} {a b c : Int} : Stp H (upd H s (.lst [.int a, .int b, .int c])) s := ⟨⟨a, b, c, upd_same⟩, fun _ h => upd_ne h⟩
abbrev s_draw : Stmt := top 58
theorem sc_draw : FnScope ["_law_source_here", "_law_many", "_law_found", "_law_mixed"] ["_law_source_here", "_law_many"] (defScope s_draw) := ⟨rfl, rfl, rfl, by decide +kernel, rfl, by decide +kernel, by decide +kernel⟩
def spDraw : Sp := fun vs H Q _ => ∃ (s : Addr) (m : Int), vs = [.ref s, .int m] ∧ Src H s ∧ 0 < m ∧ m < 2 ^ 62 ∧ ∀ (z : Int) (H' : Hp), 0 ≤ z → z < m → Stp H H' s → Q (.int z) H'
theorem mod_bd (x : Int) {m : Int} (h0 : 0 < m) (h1 : m < 2 ^ 62) : -(2 ^ 64) < x % m ∧ x % m < 2 ^ 64 := by
  have a := Int.emod_nonneg x (show m ≠ 0 by omega)
  have b := Int.emod_lt_of_pos x h0
  omega
theorem cdw {i m : Int} (h0 : 0 < m) (h1 : m < 2 ^ 62) : CDivW i m := wide_div (b := 62) h0 (by omega) (by decide) (by decide)
section
variable {P : Program} {w : World} {K : PySem.W.Frag} {mg : PySem.Str → Option Value} {base : Heap}
theorem ok_draw {f : Addr} {fd : FuncData} (F : FnP K "_law_draw" s_draw f fd) : FnOk P w K mg base CX0 1 f fd ["_law_source_here", "_law_many"] spDraw := by
  refine F.ok sc_draw (fun vs H Q E h => ?_) (fun cdv A outer s H vs Q E hr h => ?_)
  · obtain ⟨s, m, rfl, _⟩ := h
    rfl
  · obtain ⟨s, m, rfl, ⟨a, b, c, hs⟩, m0, m1, q⟩ := h
    refine ⟨_, PSs.nox (pss_cons (ps_if (pt_cmpR op_gt (pe_ix ix_list (pv 0) pe_int (fun _ _ => rfl)) pe_int (nomark _))
        (pss_cons (ps_set (i := 2) sc_draw.nd rfl (.inl rfl) (pe_op op_mod (pe_ix ix_list (pv 0) pe_int (fun _ _ => rfl)) (pv 1)))
        (pss_cons (ps_asg (pe_op op_fdivW (pe_ix ix_list (pv 0) pe_int (fun _ _ => rfl)) (pv 1)) (pg_sub (pv 0) pe_int set_list))
        (pss_one (ps_ret (pv 2))))) pss_nil)
      (pss_cons (ps_asg (pe_op op_add (pe_ix ix_list (pv 0) pe_int (fun _ _ => rfl)) pe_int) (pg_sub (pv 0) pe_int set_list))
      (pss_cons (ps_asg (pe_op op_mod (pe_op op_add (pe_op op_add (pe_op op_mul (pe_ix ix_list (pv 0) pe_int (fun _ _ => rfl)) pe_int) (pe_op op_mul pe_int (pe_ix ix_list (pv 0) pe_int (fun _ _ => rfl)))) pe_int) pe_int) (pg_sub (pv 0) pe_int set_list))
      (pss_cons (ps_set (i := 3) sc_draw.nd rfl (.inl rfl) (pe_op op_mod (pe_op op_add (pe_op op_add (pe_op op_mul (pe_ix ix_list (pv 0) pe_int (fun _ _ => rfl)) (pe_ix ix_list (pv 0) pe_int (fun _ _ => rfl))) (pe_op op_mul pe_int (pe_ix ix_list (pv 0) pe_int (fun _ _ => rfl)))) pe_int) pe_int))
      (pss_cons (ps_set (i := 3) sc_draw.nd rfl (.inl rfl) (pe_op op_mod (pe_op op_add (pe_op op_mul (pv 3) (pv 3)) (pe_op op_mul pe_int (pv 3))) pe_int))
      (pss_one (ps_ret (pe_op op_mod (pe_op op_fdiv (pv 3) pe_int) (pv 1))))))))), ?_⟩
    refine ⟨_, rfl, s, _, 0, _, rfl, rfl, .inl (.inl hs), rfl, a, 0, rfl, rfl, _, rfl, ?_⟩
    by_cases c0 : (0 : Int) < a
    · rw [decide_eq_true c0]
      refine iteT ⟨_, rfl, s, _, 0, _, rfl, rfl, .inl (.inl hs), rfl, _, rfl, a, m, rfl, rfl, m0, ?_⟩
      refine ⟨_, rfl, s, _, 0, _, rfl, rfl, .inl (.inl hs), rfl, _, rfl, a, m, rfl, rfl, cdw m0 m1, ?_⟩
      refine ⟨_, rfl, s, _, 0, 0, rfl, rfl, hs, rfl, ?_⟩
      refine ⟨_, rfl, q _ _ (Int.emod_nonneg _ (by omega)) (Int.emod_lt_of_pos _ m0) ?_⟩
      exact stp_upd
    · rw [decide_eq_false c0]
      refine iteF ⟨_, rfl, s, _, 2, _, rfl, rfl, .inl (.inl hs), rfl, c, 1, rfl, rfl, ?_⟩
      refine ⟨_, rfl, s, _, 2, 2, rfl, rfl, hs, rfl, ?_⟩
      refine ⟨_, rfl, s, _, 1, _, rfl, rfl, .inl (.inl upd_same), rfl, b, 48271, rfl, rfl, .inr ⟨by decide, by decide⟩, ?_⟩
      refine ⟨_, rfl, s, _, 2, _, rfl, rfl, .inl (.inl upd_same), rfl, 1009, _, rfl, rfl, .inl ⟨by decide, by decide⟩, _, _, rfl, rfl, _, 7, rfl, rfl, _, 2147483647, rfl, rfl, show (0 : Int) < 2147483647 by decide, ?_⟩
      refine ⟨_, rfl, s, _, 1, 1, rfl, rfl, upd_same, rfl, ?_⟩
      refine ⟨_, rfl, s, _, 1, _, rfl, rfl, .inl (.inl upd_same), rfl, _, rfl, s, _, 1, _, rfl, rfl, .inl (.inl upd_same), rfl, _, _, rfl, rfl, .inl (mod_bd _ (by decide) (by decide)), ?_⟩
      refine ⟨_, rfl, s, _, 1, _, rfl, rfl, .inl (.inl upd_same), rfl, 69621, _, rfl, rfl, .inl ⟨by decide, by decide⟩, _, _, rfl, rfl, _, 11, rfl, rfl, _, 2147483629, rfl, rfl, show (0 : Int) < 2147483629 by decide, ?_⟩
      refine ⟨_, rfl, _, rfl, _, _, rfl, rfl, .inl (mod_bd _ (by decide) (by decide)), ?_⟩
      refine ⟨_, rfl, 40014, _, rfl, rfl, .inl ⟨by decide, by decide⟩, _, _, rfl, rfl, _, 2147483587, rfl, rfl, show (0 : Int) < 2147483587 by decide, ?_⟩
      refine ⟨_, rfl, _, 16, rfl, rfl, ⟨by decide, by decide⟩, _, rfl, _, m, rfl, rfl, m0, ?_⟩
      exact q _ _ (Int.emod_nonneg _ (by omega)) (Int.emod_lt_of_pos _ m0) (Stp.trans (H1 := upd H s (.lst [.int a, .int b, .int (c + 1)])) stp_upd stp_upd)
end
abbrev s_cell : Stmt := top 56
abbrev s_source : Stmt := top 57
abbrev s_choose : Stmt := top 59
theorem sc_cell : FnScope ["_law_script", "_law_index"] ["_law_script", "_law_index"] (defScope s_cell) := ⟨rfl, rfl, rfl, by decide +kernel, rfl, by decide +kernel, by decide +kernel⟩
theorem sc_source : FnScope ["_law_cell_here"] ["_law_cell_here"] (defScope s_source) := ⟨rfl, rfl, rfl, by decide +kernel, rfl, by decide +kernel, by decide +kernel⟩
theorem sc_choose : FnScope ["_law_source_here", "_law_values"] ["_law_source_here", "_law_values"] (defScope s_choose) := ⟨rfl, rfl, rfl, by decide +kernel, rfl, by decide +kernel, by decide +kernel⟩
def spCell (K : PySem.W.Frag) : Sp := fun vs H Q _ => ∃ (a : Addr) (ns : List Int) (z0 : Int), vs = [.ref a, .int z0] ∧ 0 ≤ z0 ∧ SqL K H a (ns.map V.int) ∧ ∀ z : Int, Q (.int z) H
def spSource : Sp := fun vs H Q _ => ∃ c : Int, vs = [.int c] ∧ ∀ (p : Addr) (x y z : Int), H p = none → Q (.ref p) (upd H p (.lst [.int x, .int y, .int z]))
def spChoose : Sp := fun vs H Q _ => ∃ (s l : Addr) (xs : List V), vs = [.ref s, .ref l] ∧ Src H s ∧ l ≠ s ∧ H l = some (.lst xs) ∧ 0 < xs.length ∧ xs.length ≤ 1000 ∧
  ∀ (i : Nat) (x : V) (H' : Hp), xs[i]? = some x → Stp H H' s → Q x H'
section
variable {P : Program} {w : World} {K : PySem.W.Frag} {mg : PySem.Str → Option Value} {base : Heap}
theorem ok_cell {f : Addr} {fd : FuncData} (F : FnP K "_law_cell" s_cell f fd) (T : Tx K mg) : FnOk P w K mg base CX0 1 f fd ["_law_script", "_law_index"] (spCell K) := by
  refine F.ok sc_cell (fun vs H Q E h => ?_) (fun cdv A outer s H vs Q E hr h => ?_)
  · obtain ⟨a, ns, i, rfl, _⟩ := h
    rfl
  · obtain ⟨a, ns, z0, rfl, hz, hs, q⟩ := h
    obtain ⟨i, rfl⟩ := Int.eq_ofNat_of_zero_le hz
    refine ⟨_, PSs.nox (pss_cons (ps_if (pt_cmpR op_lt (pv 1) (pe_callB call_len_seq (by rfl) T.len bLen (pa_cons (pv 0) pa_nil)) (nomark _)) (pss_one (ps_ret (pe_ix ix_list (pv 0) (pv 1) (fun _ _ => rfl)))) pss_nil)
      (pss_one (ps_ret pe_int))), ?_⟩
    refine ⟨_, rfl, _, rfl, a, _, rfl, .inl hs, _, _, rfl, rfl, _, rfl, ?_⟩
    by_cases c : (i : Int) < (((ns.map V.int).length : Nat) : Int)
    · rw [decide_eq_true c]
      have hi : i < ns.length := by
        rw [List.length_map] at c
        omega
      refine iteT ⟨_, rfl, _, rfl, a, _, i, .int ns[i], rfl, rfl, hs, L2.at_of rfl ?_, q _⟩
      rw [List.getElem?_map, List.getElem?_eq_getElem hi]
      rfl
    · rw [decide_eq_false c]
      exact iteF (q _)
theorem ok_source {f : Addr} {fd : FuncData} (F : FnP K "_law_source" s_source f fd) (T : Tx K mg) : FnOk P w K mg base CX0 1 f fd ["_law_cell_here"] spSource := by
  refine F.ok sc_source (fun vs H Q E h => ?_) (fun cdv A outer s H vs Q E hr h => ?_)
  · obtain ⟨c, rfl, _⟩ := h
    rfl
  · obtain ⟨c, rfl, q⟩ := h
    refine ⟨_, PSs.nox (pss_one (ps_ret (pe_lst (pa_cons (pe_callB (call_max2 rfl) (by rfl) T.max bMax (pa_cons pe_int (pa_cons (pe_op op_sub (pv 0) (pe_op op_pow pe_int pe_int)) pa_nil)))
      (pa_cons (pe_op op_add (pe_op op_mod (pv 0) pe_int) pe_int) (pa_cons pe_int pa_nil)))))), ?_⟩
    refine ⟨_, rfl, 10, 18, rfl, rfl, ⟨by decide, by decide, by decide⟩, _, _, rfl, rfl, _, _, rfl, ?_⟩
    refine ⟨_, rfl, _, 2147483629, rfl, rfl, show (0 : Int) < 2147483629 by decide, _, 1, rfl, rfl, by show 3 ≤ sizeLine; decide, fun p hp => q p _ _ _ hp⟩
theorem ok_choose {f fD : Addr} {fd fdD : FuncData} (F : FnP K "_law_choose" s_choose f fd) (T : Tx K mg) (GD : FnOk P w K mg base CX0 1 fD fdD ["_law_source_here", "_law_many"] spDraw)
    (bD : Binds K fdD ["_law_source_here", "_law_many"] []) (kD : PySem.W.keepIn K (.ref fD) = true) (gD : mg "_law_draw" = some (.ref fD)) : FnOk P w K mg base CX0 2 f fd ["_law_source_here", "_law_values"] spChoose := by
  refine F.ok sc_choose (fun vs H Q E h => ?_) (fun cdv A outer s H vs Q E hr h => ?_)
  · obtain ⟨s, l, xs, rfl, _⟩ := h
    rfl
  · obtain ⟨s, l, xs, rfl, hs, ne, hl, l0, l1, q⟩ := h
    refine ⟨_, PSs.nox (pss_one (ps_ret (pe_ix ix_list (pv 1) (pe_call GD hr rfl gD kD bD .nil pass0 (pa_cons (pv 0) (pa_cons (pe_callB call_len_seq (by rfl) T.len bLen (pa_cons (pv 1) pa_nil)) pa_nil))) (fun _ _ => rfl)))), ?_⟩
    refine ⟨_, rfl, _, rfl, _, rfl, l, xs, rfl, .inl (.inl (.inl hl)), s, _, rfl, hs, by omega, by omega, fun z H' z0 z1 st => ?_⟩
    obtain ⟨j, rfl⟩ := Int.eq_ofNat_of_zero_le z0
    have hj : j < xs.length := by omega
    refine ⟨l, xs, _, xs[j], rfl, rfl, .inl (.inl ?_), L2.at_of rfl (List.getElem?_eq_getElem hj), q j _ H' (List.getElem?_eq_getElem hj) st⟩
    rw [st.same l ne]
    exact hl
end
/-! ### _law_is_equal -/
abbrev s_eq : Stmt := top 60
theorem sc_eq : FnScope ["_law_actual", "_law_expected"] ["_law_actual", "_law_expected"] (defScope s_eq) := ⟨rfl, rfl, rfl, by decide +kernel, rfl, by decide +kernel, by decide +kernel⟩
def spEq : Sp := fun vs H Q _ => ∃ (v1 v2 : V) (d : PyData), vs = [v1, v2] ∧ Rp H v1 d ∧ Rp H v2 d ∧ Fit d 50 1000000 ∧ Q (.bl true) H
theorem big : 1000000 ≤ sizeLine := by decide
section
variable {P : Program} {w : World} {K : PySem.W.Frag} {mg : PySem.Str → Option Value} {base : Heap}
theorem ok_eq {f : Addr} {fd : FuncData} (F : FnP K "_law_is_equal" s_eq f fd) (T : Tx K mg) : FnG P w K mg base CX0 1 f spEq := by
  refine fng_of F sc_eq (FunD.bindsA (ps := ["_law_actual", "_law_expected"]) F fun _ _ _ _ _ _ us hl => match us, hl with | [_, _], _ => rfl) (fun vs H Q E h => ?_) (fun cdv A outer s H vs Q E hg hr h => ?_)
  · obtain ⟨v1, v2, d, rfl, _⟩ := h
    rfl
  · obtain ⟨v1, v2, d, rfl, r1, r2, ft, q⟩ := h
    refine ⟨_, PSs.nox (pss_one (ps_ret (pe_cmpR op_eq (pe_callB (call_repr T.sm hg hr) (by rfl) T.repr bRepr (pa_cons (pv 0) pa_nil)) (pe_callB (call_repr T.sm hg hr) (by rfl) T.repr bRepr (pa_cons (pv 1) pa_nil)) (nomark _)))), ?_⟩
    have dp : d.depth ≤ 60 := Nat.le_trans ft.dp (by decide)
    have ln : d.shown.length ≤ sizeLine := Nat.le_trans ft.ln big
    refine ⟨_, rfl, _, d, rfl, r1, ft.sh, dp, ln, _, rfl, _, d, rfl, r2, ft.sh, dp, ln, rfl, ?_⟩
    have e : decide (V.str d.shown = V.str d.shown) = true := decide_eq_true rfl
    show Q (V.bl (decide (V.str d.shown = V.str d.shown))) H
    rw [e]
    exact q
end
section
variable {K : PySem.W.Frag} {σ : L2.St} {F : Hp} {ta tb te t1 t2 : TE} {d : PyData} {ds : List PyData} {E : XK} {C : Addr} {P1 P2 : Hp → V → Prop}
theorem e_eq (h1 : EvD t1 σ F d) (h2 : EvD t2 σ F d) (ft : Fit d 50 1000000) : EvD (tCall spEq [] E (tCons t1 (tCons t2 tNil))) σ F (.bool true) := fun S H1 f s Q q =>
  h1 S H1 f s _ fun v1 H2 s2 r1 => h2 S H2 (f.mono s2) (s.trans (offS_mono s2)) _ fun v2 H3 s3 r2 => ⟨v1, v2, d, rfl, (r1.mono (offS_mono s3)).mono offS_same, r2.mono offS_same, ft, q _ H3 (s2.trans s3) (.bl _)⟩
end
end Q

set_option maxHeartbeats 400000
namespace Q
open PySem PySem.Spec PyProof.Rows L2 Ca
/-! ### what an expression gives that may draw from the source at s -/
/-- all but what stands at s is kept -/
def Kp (s : Addr) (H H' : Hp) : Prop := ∀ b o, b ≠ s → H b = some o → H' b = some o
theorem Kp.refl (s : Addr) (H : Hp) : Kp s H H := fun _ _ _ e => e
theorem Kp.trans {s : Addr} {H H1 H2 : Hp} (a : Kp s H H1) (b : Kp s H1 H2) : Kp s H H2 := fun x o hx e => b x o hx (a x o hx e)
theorem Kp.of {s : Addr} {H H' : Hp} (h : Same H H') : Kp s H H' := fun b o _ e => h b o e
theorem Stp.kp {s : Addr} {H H' : Hp} (h : Stp H H' s) : Kp s H H' := fun b o hb e => by rw [h.same b hb]; exact e
theorem src_same {H H' : Hp} {s : Addr} (hs : Src H s) (h : Same H H') : Src H' s := by
  obtain ⟨a, b, c, e⟩ := hs
  exact ⟨a, b, c, h _ _ e⟩
section
variable {s : Addr} {S : Addr → Bool} {H H' : Hp}
theorem Kp.fr (k : Kp s H H') (hs : Src H' s) (f : Fr S H) : Fr S H' := fun a ha => by
  by_cases z : a = s
  · subst z
    obtain ⟨x, y, c, e⟩ := hs
    exact ⟨_, e, trivial⟩
  · obtain ⟨o, e, m⟩ := f a ha
    exact ⟨o, k a o z e, m⟩
theorem Kp.off (k : Kp s H H') (hS : S s = true) : Same (offS S H) (offS S H') := fun b o e => by
  unfold offS at e ⊢
  split at e
  · cases e
  · rename_i hb
    rw [if_neg hb]
    exact k b o (fun z => hb (by rw [z]; exact hS)) e
end
def EvK (s : Addr) (te : TE) (σ : L2.St) (F : Hp) (P : Hp → V → Prop) : Prop := ∀ (S : Addr → Bool) (H1 : Hp), Fr S H1 → S s = true → Src H1 s → Same F (offS S H1) → ∀ Q : VK, (∀ v H2, Kp s H1 H2 → Src H2 s → P (offS S H2) v → Q v H2) → te σ H1 Q
/-- what is so stays so -/
def Mon (P : Hp → V → Prop) : Prop := ∀ F F' v, Same F F' → P F v → P F' v
inductive PsA (H : Hp) : List (Hp → V → Prop) → List V → Prop where
  | nil : PsA H [] []
  | cons {P : Hp → V → Prop} {Ps : List (Hp → V → Prop)} {v : V} {vs : List V} (h : P H v) (r : PsA H Ps vs) : PsA H (P :: Ps) (v :: vs)
theorem PsA.mono {H H' : Hp} {Ps : List (Hp → V → Prop)} {vs : List V} (r : PsA H Ps vs) (m : ∀ P ∈ Ps, Mon P) (s : Same H H') : PsA H' Ps vs := by
  induction r with
  | nil => exact .nil
  | cons h r ih => exact .cons (m _ (.head _) _ _ _ s h) (ih fun P hP => m P (.tail _ hP))
theorem PsA.length {H : Hp} {Ps : List (Hp → V → Prop)} {vs : List V} (r : PsA H Ps vs) : vs.length = Ps.length := by
  induction r with
  | nil => rfl
  | cons h r ih => rw [List.length_cons, List.length_cons, ih]
def EvKA (s : Addr) (ta : TA) (σ : L2.St) (F : Hp) (Ps : List (Hp → V → Prop)) : Prop := ∀ (S : Addr → Bool) (H1 : Hp), Fr S H1 → S s = true → Src H1 s → Same F (offS S H1) → ∀ Q : List V → Hp → Prop, (∀ vs H2, Kp s H1 H2 → Src H2 s → PsA (offS S H2) Ps vs → Q vs H2) → ta σ H1 Q
def IntP (lo hi : Int) : Hp → V → Prop := fun _ v => ∃ z, v = .int z ∧ lo ≤ z ∧ z ≤ hi
def RpP (D : PyData → Prop) : Hp → V → Prop := fun H v => ∃ d, D d ∧ Rp H v d
def LsP (n : Nat) (P : Hp → V → Prop) : Hp → V → Prop := fun H v => ∃ a xs, v = .ref a ∧ H a = some (.lst xs) ∧ xs.length = n ∧ ∀ x ∈ xs, P H x
def TpP (Ps : List (Hp → V → Prop)) : Hp → V → Prop := fun H v => ∃ a xs, v = .ref a ∧ H a = some (.tup xs) ∧ PsA H Ps xs
theorem mon_int {lo hi : Int} : Mon (IntP lo hi) := fun _ _ _ _ h => h
theorem mon_rpK {D : PyData → Prop} : Mon (RpP D) := fun _ _ _ s ⟨d, h, r⟩ => ⟨d, h, r.mono s⟩
theorem mon_d {d : PyData} : Mon (fun H v => Rp H v d) := fun _ _ _ s r => r.mono s
theorem mon_ls {n : Nat} {P : Hp → V → Prop} (m : Mon P) : Mon (LsP n P) := fun _ _ _ s ⟨a, xs, e, h, l, r⟩ => ⟨a, xs, e, s _ _ h, l, fun x hx => m _ _ _ s (r x hx)⟩
section
variable {K : PySem.W.Frag} {s : Addr} {σ : L2.St} {F : Hp} {ta tb te tm tl : TE} {tas : TA} {P P1 P2 : Hp → V → Prop} {Ps : List (Hp → V → Prop)} {E : XK}
theorem k_of (h : EvP te σ F P) : EvK s te σ F P := fun S H1 f hS hs sm Q q => h S H1 f sm Q fun v H2 s2 p => q v H2 (.of s2) (src_same hs s2) p
theorem EvK.weak (h : EvK s te σ F P) (w : ∀ H v, P H v → P2 H v) : EvK s te σ F P2 := fun S H1 f hS hs sm Q q => h S H1 f hS hs sm Q fun v H2 k2 s2 p => q v H2 k2 s2 (w _ _ p)
theorem ka_nil : EvKA s tNil σ F [] := fun S H1 f hS hs sm Q q => q _ H1 (.refl _ _) hs .nil
theorem ka_cons (h : EvK s te σ F P) (m : Mon P) (hs : EvKA s tas σ F Ps) : EvKA s (tCons te tas) σ F (P :: Ps) := fun S H1 f hS hc sm Q q =>
  h S H1 f hS hc sm _ fun v H2 k2 c2 p => hs S H2 (k2.fr c2 f) hS c2 (sm.trans (k2.off hS)) _ fun vs H3 k3 c3 r => q _ H3 (k2.trans k3) c3 (.cons (m _ _ _ (k3.off hS) p) r)
theorem k_tup (h : EvKA s tas σ F Ps) (m : ∀ P ∈ Ps, Mon P) (hl : Ps.length ≤ 1000) : EvK s (tTup tas) σ F (TpP Ps) := fun S H1 f hS hc sm Q q =>
  h S H1 f hS hc sm _ fun vs H2 k2 c2 r => ⟨by rw [r.length]; exact Nat.le_of_lt (small1000 hl), fun p hp => q _ _ (k2.trans (.of (same_new hp))) (src_same c2 (same_new hp)) ⟨p, vs, rfl, offS_new (k2.fr c2 f) hp, r.mono m (offS_mono (same_new hp))⟩⟩
theorem psa_all {H : Hp} {vs : List V} (r : PsA H Ps vs) (w : ∀ P ∈ Ps, ∀ v, P H v → P2 H v) : ∀ v ∈ vs, P2 H v := by
  induction r with
  | nil => exact fun v h => by cases h
  | cons h r ih =>
    intro v hv
    rcases List.mem_cons.mp hv with z | z
    · rw [z]
      exact w _ (.head _) _ h
    · exact ih (fun P hP => w P (.tail _ hP)) v z
theorem k_lst (h : EvKA s tas σ F Ps) (m : Mon P) (w : ∀ P' ∈ Ps, ∀ H v, P' H v → P H v) (hl : Ps.length ≤ 1000) : EvK s (tLst tas) σ F (LsP Ps.length P) := fun S H1 f hS hc sm Q q =>
  h S H1 f hS hc sm _ fun vs H2 k2 c2 r => ⟨by rw [r.length]; exact Nat.le_of_lt (small1000 hl), fun p hp => q _ _ (k2.trans (.of (same_new hp))) (src_same c2 (same_new hp)) ⟨p, vs, rfl, offS_new (k2.fr c2 f) hp, r.length, fun x hx =>
    m _ _ _ (offS_mono (same_new hp)) (psa_all (P2 := P) r (fun P' hP v => w P' hP _ v) x hx)⟩⟩
theorem k_draw {i : Nat} {m : Int} (hi : σ[i]? = some (some (.ref s))) (hm : EvP tm σ F (fun H v => Rp H v (.int m))) (m0 : 0 < m) (m1 : m < 2 ^ 62) : EvK s (tCall spDraw [] E (tCons (tVar i) (tCons tm tNil))) σ F (IntP 0 (m - 1)) := fun S H1 f hS hc sm Q q =>
  ⟨_, hi, hm S H1 f sm _ fun v H2 s2 r => by
    cases r
    exact ⟨s, m, rfl, src_same hc s2, m0, m1, fun z H3 z0 z1 st => q _ H3 ((Kp.of s2).trans st.kp) st.src ⟨z, rfl, z0, by omega⟩⟩⟩
theorem k_choose {i n : Nat} (hi : σ[i]? = some (some (.ref s))) (hl : EvK s tl σ F (LsP n P)) (mo : Mon P) (n0 : 0 < n) (n1 : n ≤ 1000) : EvK s (tCall spChoose [] E (tCons (tVar i) (tCons tl tNil))) σ F P := fun S H1 f hS hc sm Q q =>
  ⟨_, hi, hl S H1 f hS hc sm _ fun v H2 k2 c2 ⟨a, xs, e, ha, hn, hx⟩ => by
    subst e
    have na : a ≠ s := fun z => by
      rw [z] at ha
      unfold offS at ha
      rw [if_pos hS] at ha
      cases ha
    exact ⟨s, a, xs, rfl, c2, na, offS_same _ _ ha, by omega, by omega, fun j x H3 hj st => q _ H3 (k2.trans st.kp) st.src (mo _ _ _ (st.kp.off hS) (hx x (List.mem_of_getElem? hj)))⟩⟩
theorem k_add {a b c d : Int} (ha : EvK s ta σ F (IntP a b)) (hb : EvK s tb σ F (IntP c d)) : EvK s (tOp (rI0 fun i j => .int (i + j)) ta tb) σ F (IntP (a + c) (b + d)) := fun S H1 f hS hc sm Q q =>
  ha S H1 f hS hc sm _ fun v H2 k2 c2 ⟨x, e1, x0, x1⟩ => hb S H2 (k2.fr c2 f) hS c2 (sm.trans (k2.off hS)) _ fun u H3 k3 c3 ⟨y, e2, y0, y1⟩ => by
    subst e1 e2
    exact ⟨x, y, rfl, rfl, q _ H3 (k2.trans k3) c3 ⟨x + y, rfl, by omega, by omega⟩⟩
theorem k_int {i lo hi : Int} (h0 : lo ≤ i) (h1 : i ≤ hi) : EvK s (tC (.int i)) σ F (IntP lo hi) := k_of fun S H1 f sm Q q => q _ H1 (Same.refl _) ⟨i, rfl, h0, h1⟩
theorem k_varI {i : Nat} {z lo hi : Int} (h : σ[i]? = some (some (.int z))) (h0 : lo ≤ z) (h1 : z ≤ hi) : EvK s (tVar i) σ F (IntP lo hi) := k_of (e_varP h fun _ _ => ⟨z, rfl, h0, h1⟩)
/-! statements -/
variable {S : Addr → Bool} {H : Hp} {D : L2.Ends} {t u : TS}
theorem go_setK {i : Nat} (f : Fr S H) (hS : S s = true) (hc : Src H s) (h : EvK s te σ (offS S H) P) (k : ∀ v H', Kp s H H' → Src H' s → Fr S H' → P (offS S H') v → u D (σ.set i (some v)) H') : tSeq (tAsg te (gName i)) u D σ H :=
  h S H f hS hc (Same.refl _) _ fun v H' k' c p => k v H' k' c (k'.fr c f) p
end
end Q

set_option maxHeartbeats 4000000
namespace Q
open PySem PySem.Spec PyProof.Rows L2 Ca
/-! ### _law_choose of a tuple of ints, of a text -/
def spChT : Sp := fun vs H Q _ => ∃ (s t : Addr) (ns : List Int), vs = [.ref s, .ref t] ∧ Src H s ∧ H t = some (.tup (ns.map V.int)) ∧ 0 < ns.length ∧ ns.length ≤ 1000 ∧ ∀ (n : Int) (H' : Hp), n ∈ ns → Stp H H' s → Q (.int n) H'
def spChS : Sp := fun vs H Q _ => ∃ (s : Addr) (z : PySem.Str), vs = [.ref s, .str z] ∧ Src H s ∧ 0 < z.length ∧ z.length ≤ 1000 ∧ ∀ (c : Nat) (H' : Hp), c ∈ z.cps.toList → Stp H H' s → Q (.str ⟨#[c]⟩) H'
theorem atI_nat2 {α : Type} {xs : List α} {j : Nat} {x : α} (h : xs[j]? = some x) : atI xs (j : Int) = some x := by
  have hj : j < xs.length := (List.getElem?_eq_some_iff.mp h).1
  unfold atI
  have e : ixN xs.length (j : Int) = some j := by
    unfold ixN
    simp [hj]
  rw [e]
  exact h
section
variable {P : Program} {w : World} {K : PySem.W.Frag} {mg : PySem.Str → Option Value} {base : Heap}
theorem ok_chT {f fD : Addr} {fd fdD : FuncData} (F : FnP K "_law_choose" s_choose f fd) (T : Tx K mg) (GD : FnOk P w K mg base CX0 1 fD fdD ["_law_source_here", "_law_many"] spDraw)
    (bD : Binds K fdD ["_law_source_here", "_law_many"] []) (kD : PySem.W.keepIn K (.ref fD) = true) (gD : mg "_law_draw" = some (.ref fD)) : FnOk P w K mg base CX0 2 f fd ["_law_source_here", "_law_values"] spChT := by
  refine F.ok sc_choose (fun vs H Q E h => ?_) (fun cdv A outer s H vs Q E hr h => ?_)
  · obtain ⟨s, l, xs, rfl, _⟩ := h
    rfl
  · obtain ⟨s, l, ns, rfl, hs, hl, l0, l1, q⟩ := h
    refine ⟨_, PSs.nox (pss_one (ps_ret (pe_ix ix_tup (pv 1) (pe_call GD hr rfl gD kD bD .nil pass0 (pa_cons (pv 0) (pa_cons (pe_callB call_len_seq (by rfl) T.len bLen (pa_cons (pv 1) pa_nil)) pa_nil))) (fun _ _ => rfl)))), ?_⟩
    refine ⟨_, rfl, _, rfl, _, rfl, l, _, rfl, .inr (.inl (.inl hl)), s, _, rfl, hs, by rw [List.length_map]; omega, by rw [List.length_map]; omega, fun z H' z0 z1 st => ?_⟩
    obtain ⟨j, rfl⟩ := Int.eq_ofNat_of_zero_le z0
    rw [List.length_map] at z1
    have hj : j < ns.length := by omega
    refine ⟨l, _, _, .int ns[j], rfl, rfl, .inl (.inl (st.tup hs hl)), L2.at_of rfl (by rw [List.getElem?_map, List.getElem?_eq_getElem hj]; rfl), q _ H' (List.getElem_mem hj) st⟩
theorem ok_chS {f fD : Addr} {fd fdD : FuncData} (F : FnP K "_law_choose" s_choose f fd) (T : Tx K mg) (GD : FnOk P w K mg base CX0 1 fD fdD ["_law_source_here", "_law_many"] spDraw)
    (bD : Binds K fdD ["_law_source_here", "_law_many"] []) (kD : PySem.W.keepIn K (.ref fD) = true) (gD : mg "_law_draw" = some (.ref fD)) : FnOk P w K mg base CX0 2 f fd ["_law_source_here", "_law_values"] spChS := by
  refine F.ok sc_choose (fun vs H Q E h => ?_) (fun cdv A outer s H vs Q E hr h => ?_)
  · obtain ⟨s, l, rfl, _⟩ := h
    rfl
  · obtain ⟨s, x, rfl, hs, l0, l1, q⟩ := h
    refine ⟨_, PSs.nox (pss_one (ps_ret (pe_ix ix_str (pv 1) (pe_call GD hr rfl gD kD bD .nil pass0 (pa_cons (pv 0) (pa_cons (pe_callB call_len_str (by rfl) T.len bLen (pa_cons (pv 1) pa_nil)) pa_nil))) (fun _ _ => rfl)))), ?_⟩
    refine ⟨_, rfl, _, rfl, _, rfl, _, rfl, Nat.le_of_lt (small1000 l1), s, _, rfl, hs, by omega, by omega, fun z H' z0 z1 st => ?_⟩
    obtain ⟨j, rfl⟩ := Int.eq_ofNat_of_zero_le z0
    have hj : j < x.cps.toList.length := by
      rw [Array.length_toList]
      show j < x.length
      omega
    exact ⟨x, _, x.cps.toList[j], rfl, rfl, Nat.le_of_lt (small1000 l1), atI_nat2 (List.getElem?_eq_getElem hj), q _ H' (List.getElem_mem hj) st⟩
end
/-! ### _law_some -/
abbrev s_some : Stmt := top 61
abbrev nSome : List PySem.Str := ["_law_source_here", "_law_most", "_law_pool", "_law_kinds", "_law_found", "_law_turn", "_law_atom"]
theorem sc_some : FnScope nSome ["_law_source_here", "_law_most"] (defScope s_some) := ⟨rfl, rfl, rfl, by decide +kernel, rfl, by decide +kernel, by decide +kernel⟩
theorem Kp.new {s : Addr} {H : Hp} {p : Addr} {o : HO} (h : H p = none) : Kp s H (upd H p o) := fun b u _ e => same_new h b u e
theorem src_new {H : Hp} {s p : Addr} {o : HO} (hs : Src H s) (h : H p = none) : Src (upd H p o) s := by
  obtain ⟨a, b, c, e⟩ := hs
  exact ⟨a, b, c, same_new h _ _ e⟩
theorem src_upd {H : Hp} {s p : Addr} {o : HO} (hs : Src H s) (h : p ≠ s) : Src (upd H p o) s := by
  obtain ⟨a, b, c, e⟩ := hs
  exact ⟨a, b, c, by rw [upd_ne h.symm]; exact e⟩
/-- tuples stay -/
def KTu (H H' : Hp) : Prop := ∀ t ys, H t = some (.tup ys) → H' t = some (.tup ys)
theorem KTu.trans {H H1 H2 : Hp} (a : KTu H H1) (b : KTu H1 H2) : KTu H H2 := fun t ys e => b t ys (a t ys e)
theorem Same.kt {H H' : Hp} (h : Same H H') : KTu H H' := fun t ys e => h _ _ e
theorem Stp.kt {s : Addr} {H H' : Hp} (h : Stp H H' s) (hs : Src H s) : KTu H H' := fun t ys e => h.tup hs e
theorem ktu_lst {p : Addr} {H : Hp} {o : HO} {xs : List V} (h : H p = some (.lst xs)) : KTu H (upd H p o) := fun t ys e => by
  rw [upd_ne (ne_of e h (by intro z; cases z))]
  exact e
theorem at_keep {H H' : Hp} (k : KTu H H') {x : V} {a : At} (h : Rp H x (atD a)) : Rp H' x (atD a) := by
  obtain ⟨p, rfl, hp⟩ := at_of h
  exact .tup (k _ _ hp) (.cons (.str _) (.cons (.int _) (.cons (.int _) .nil)))
theorem ats_keep {H H' : Hp} (k : KTu H H') : ∀ {as : List At} {xs : List V}, RpA H xs (as.map atD) → RpA H' xs (as.map atD)
  | [], _, h => by
    cases h
    exact .nil
  | a :: as, _, h => by
    cases h with
    | cons h1 h2 => exact .cons (at_keep k h1) (ats_keep k h2)
theorem rpA_last {H : Hp} : ∀ {as : List At} {xs : List V}, RpA H xs (as.map atD) → as ≠ [] → ∃ ys y la, xs = ys ++ [y] ∧ la ∈ as ∧ Rp H y (atD la)
  | [], _, _, h => absurd rfl h
  | [a], _, h, _ => by
    cases h with
    | @cons v vs _ _ h1 h2 =>
      cases h2
      exact ⟨[], v, a, rfl, .head _, h1⟩
  | a :: b :: as, _, h, _ => by
    cases h with
    | @cons v vs _ _ h1 h2 =>
      obtain ⟨ys, y, la, e, m, r⟩ := rpA_last (as := b :: as) h2 (by simp)
      exact ⟨v :: ys, y, la, by rw [e]; rfl, .tail _ m, r⟩
def dig (z : Int) : Prop := 0 ≤ z ∧ z ≤ 9
/-- a pool to choose variables from -/
def Pool (H : Hp) (t : Addr) : Prop := ∃ ns : List Int, H t = some (.tup (ns.map V.int)) ∧ 0 < ns.length ∧ ns.length ≤ 10 ∧ ∀ n ∈ ns, dig n
theorem Pool.kt {H H' : Hp} {t : Addr} (h : Pool H t) (k : KTu H H') : Pool H' t := by
  obtain ⟨ns, e, z⟩ := h
  exact ⟨ns, k _ _ e, z⟩
def KindT (z : PySem.Str) : Prop := 0 < z.length ∧ z.length ≤ 1000 ∧ ∀ c ∈ z.cps.toList, kindOk ⟨#[c]⟩ = true
def spSome : Sp := fun vs H Q _ => ∃ (s : Addr) (zm : Int) (m : Nat), vs = [.ref s, .int zm] ∧ zm = (m : Int) ∧ 1 ≤ m ∧ m ≤ 4 ∧ Src H s ∧
  ∀ (fo : Addr) (xs : List V) (as : List At) (H' : Hp), H fo = none → Kp s H H' → Src H' s → H' fo = some (.lst xs) → RpA H' xs (as.map atD) → 1 ≤ as.length → as.length ≤ m → (∀ a ∈ as, Good a) → Q (.ref fo) H'
structure SInv (s t fo : Addr) (H0 : Hp) (i : Nat) (H : Hp) : Prop where
  kp : Kp s H0 H
  src : Src H s
  pool : Pool H t
  f0 : H0 fo = none
  ns : fo ≠ s
  at_ : ∃ (xs : List V) (as : List At), H fo = some (.lst xs) ∧ RpA H xs (as.map atD) ∧ as.length = i ∧ ∀ a ∈ as, Good a
theorem SInv.stp {s t fo : Addr} {H0 H H' : Hp} {i : Nat} (h : SInv s t fo H0 i H) (st : Stp H H' s) : SInv s t fo H0 i H' := by
  obtain ⟨xs, as, h1, h2, h3, h4⟩ := h.at_
  exact ⟨h.kp.trans st.kp, st.src, h.pool.kt (st.kt h.src), h.f0, h.ns, xs, as, by rw [st.same fo h.ns]; exact h1, ats_keep (st.kt h.src) h2, h3, h4⟩
theorem SInv.same {s t fo : Addr} {H0 H H' : Hp} {i : Nat} (h : SInv s t fo H0 i H) (st : Same H H') : SInv s t fo H0 i H' := by
  obtain ⟨xs, as, h1, h2, h3, h4⟩ := h.at_
  exact ⟨h.kp.trans fun b o _ e => st b o e, src_same h.src st, h.pool.kt (Same.kt st), h.f0, h.ns, xs, as, st _ _ h1, h2.mono st, h3, h4⟩
theorem go_ifAnd {σ : L2.St} {S : Addr → Bool} {H : Hp} {t1 t2 : L2.TT} {ta tb : TS} {D : L2.Ends} {b : Bool} (f : Fr S H) (h : EvB t1 σ (offS S H) b) (k1 : b = true → ∀ H', Same H H' → t2 σ H' fun c H1 => if c = true then ta D σ H1 else tb D σ H1) (k2 : b = false → ∀ H', Same H H' → tb D σ H') :
    tIfS (tAnd t1 t2) ta tb D σ H := h S H f (Same.refl _) _ fun H' s => by
  cases b with
  | true => exact k1 rfl H' s
  | false => exact k2 rfl H' s
def poolL : List (List Int) := [[0], [0, 1], [0, 1, 2], [9, 4], [3, 0, 7], [0, 1, 2, 3], [2, 3, 5, 8, 9], [0, 1, 2, 3, 4, 5, 6, 7, 8, 9]]
def tiD (ns : List Int) : PyData := .tuple (ns.map .int)
theorem pool_ok : ∀ ns ∈ poolL, 0 < ns.length ∧ ns.length ≤ 10 ∧ ∀ n ∈ ns, dig n := by
  unfold dig poolL
  decide
theorem pool_of {H : Hp} {xs : List V} {j : Nat} {x : V} (r : RpA H xs (poolL.map tiD)) (h : xs[j]? = some x) : ∃ t, x = .ref t ∧ Pool H t := by
  obtain ⟨ns, hn, rx⟩ := l_get r h
  have z := pool_ok ns (List.mem_of_getElem? hn)
  cases rx with
  | tup h1 r1 =>
    rw [ints_rp r1] at h1
    exact ⟨_, rfl, ns, h1, z⟩
def kindL : List PySem.Str := ["A", "A", "AB", "CAB", "CB"]
theorem kind_ok : ∀ z ∈ kindL, KindT z := by
  have h : ∀ z ∈ kindL, 0 < z.length ∧ z.length ≤ 1000 ∧ ∀ c ∈ z.cps.toList, kindOk ⟨#[c]⟩ = true := by decide +kernel
  exact h
section
variable {P : Program} {w : World} {K : PySem.W.Frag} {mg : PySem.Str → Option Value} {base : Heap}
theorem ok_some {f fD fC : Addr} {fd fdD fdC : FuncData} (F : FnP K "_law_some" s_some f fd) (T : Tx K mg) (GD : FnOk P w K mg base CX0 1 fD fdD ["_law_source_here", "_law_many"] spDraw)
    (bD : Binds K fdD ["_law_source_here", "_law_many"] []) (kD : PySem.W.keepIn K (.ref fD) = true) (gD : mg "_law_draw" = some (.ref fD))
    (GC : FnOk P w K mg base CX0 2 fC fdC ["_law_source_here", "_law_values"] spChoose) (GCt : FnOk P w K mg base CX0 2 fC fdC ["_law_source_here", "_law_values"] spChT) (GCs : FnOk P w K mg base CX0 2 fC fdC ["_law_source_here", "_law_values"] spChS)
    (bC : Binds K fdC ["_law_source_here", "_law_values"] []) (kC : PySem.W.keepIn K (.ref fC) = true) (gC : mg "_law_choose" = some (.ref fC)) :
    FnOk P w K mg base CX0 3 f fd ["_law_source_here", "_law_most"] spSome := by
  refine F.ok sc_some (fun vs H Q E h => ?_) (fun cdv A outer s0 H vs Q E hr h => ?_)
  · obtain ⟨s, zm, m, rfl, _⟩ := h
    rfl
  · obtain ⟨s, zm, m, rfl, rfl, m1, m4, hs, q⟩ := h
    have hr1 : Room 1 _ := hr.mono (by decide)
    refine ⟨_, PSs.nox (pss_cons (ps_set (i := 2) sc_some.nd rfl (.inl rfl) (pe_lst (pa_cons (pe_tup (pa_cons pe_int pa_nil)) (pa_cons (pe_tup (pa_cons pe_int (pa_cons pe_int pa_nil))) (pa_cons (pe_tup (pa_cons pe_int (pa_cons pe_int (pa_cons pe_int pa_nil)))) (pa_cons (pe_tup (pa_cons pe_int (pa_cons pe_int pa_nil))) (pa_cons (pe_tup (pa_cons pe_int (pa_cons pe_int (pa_cons pe_int pa_nil)))) (pa_cons (pe_tup (pa_cons pe_int (pa_cons pe_int (pa_cons pe_int (pa_cons pe_int pa_nil))))) (pa_cons (pe_tup (pa_cons pe_int (pa_cons pe_int (pa_cons pe_int (pa_cons pe_int (pa_cons pe_int pa_nil)))))) (pa_cons (pe_tup (pa_cons pe_int (pa_cons pe_int (pa_cons pe_int (pa_cons pe_int (pa_cons pe_int (pa_cons pe_int (pa_cons pe_int (pa_cons pe_int (pa_cons pe_int (pa_cons pe_int pa_nil))))))))))) pa_nil))))))))))
      (pss_cons (ps_par (i := 2) (j := 3) (by rfl) sc_some.nd rfl rfl (by decide) rfl rfl (pa_cons (pe_call GC hr rfl gC kC bC .nil pass0 (pa_cons (pv 0) (pa_cons (pv 2) pa_nil))) (pa_cons (pe_call GC hr rfl gC kC bC .nil pass0 (pa_cons (pv 0) (pa_cons (pe_lst (pa_cons pe_str (pa_cons pe_str (pa_cons pe_str (pa_cons pe_str (pa_cons pe_str pa_nil)))))) pa_nil))) pa_nil)) (by rfl))
      (pss_cons (ps_set (i := 4) sc_some.nd rfl (.inl rfl) (pe_lst pa_nil))
      (pss_cons (ps_for PassesOwn.never rfl (pi_range1 rfl T.range (pa_cons (pe_op op_add pe_int (pe_call GD hr1 rfl gD kD bD .nil pass0 (pa_cons (pv 0) (pa_cons (pv 1) pa_nil)))) pa_nil)) (pg_name (i := 5) sc_some.nd rfl (.inl rfl)) (pss_cons (ps_set (i := 6) sc_some.nd rfl (.inl rfl) (pe_tup (pa_cons (pe_call GCs hr rfl gC kC bC .nil pass0 (pa_cons (pv 0) (pa_cons (pv 3) pa_nil))) (pa_cons (pe_call GCt hr rfl gC kC bC .nil pass0 (pa_cons (pv 0) (pa_cons (pv 2) pa_nil))) (pa_cons (pe_call GCt hr rfl gC kC bC .nil pass0 (pa_cons (pv 0) (pa_cons (pv 2) pa_nil))) pa_nil)))))
      (Evl.pss_cut (ps_if (PW.pt (pw_and (pt_cmpR (op_neD hr.units : OpR _ _ (rNeD K)) (pv 4) (pe_lst pa_nil) (nomark _)) (pw_and1 (pt_cmpR op_eq (pe_call GD hr1 rfl gD kD bD .nil pass0 (pa_cons (pv 0) (pa_cons pe_int pa_nil))) pe_int (nomark _))))) (pss_one (ps_set (i := 6) sc_some.nd rfl (.inl rfl) (pe_call GC hr rfl gC kC bC .nil pass0 (pa_cons (pv 0) (pa_cons (pv 4) pa_nil))))) pss_nil)
      (Evl.pss_cut (ps_if (PW.pt (pw_and (pt_cmpR (op_neD hr.units : OpR _ _ (rNeD K)) (pv 4) (pe_lst pa_nil) (nomark _)) (pw_and1 (pt_cmpR op_eq (pe_call GD hr1 rfl gD kD bD .nil pass0 (pa_cons (pv 0) (pa_cons pe_int pa_nil))) pe_int (nomark _))))) (pss_one (ps_set (i := 6) sc_some.nd rfl (.inl rfl) (pe_tup (pa_cons (pe_ix ix_tup (pv 6) pe_int (fun _ _ => rfl)) (pa_cons (pe_ix ix_tup (pe_ix ix_list (pv 4) (pe_un un_neg pe_int) (fun _ _ => rfl)) pe_int (fun _ _ => rfl)) (pa_cons (pe_ix ix_tup (pv 6) pe_int (fun _ _ => rfl)) pa_nil)))))) pss_nil)
      (pss_one (ps_expr (pe_bm PySem.F.plainAttrs_list PySem.F.slot_list_append PySem.F.type_list_append mt_append (pv 4) (pa_cons (pv 6) pa_nil))))))))
      (pss_one (ps_ret (pv 4))))))), ?_⟩
    refine go_setS (S := fun _ => false) (P := fun H v => Rp H v (.list (poolL.map tiD))) fr0 (eqD (e_lst (a_cons (e_tup (a_cons e_int a_nil)) (a_cons (e_tup (a_cons e_int (a_cons e_int a_nil))) (a_cons (e_tup (a_cons e_int (a_cons e_int (a_cons e_int a_nil)))) (a_cons (e_tup (a_cons e_int (a_cons e_int a_nil))) (a_cons (e_tup (a_cons e_int (a_cons e_int (a_cons e_int a_nil)))) (a_cons (e_tup (a_cons e_int (a_cons e_int (a_cons e_int (a_cons e_int a_nil))))) (a_cons (e_tup (a_cons e_int (a_cons e_int (a_cons e_int (a_cons e_int (a_cons e_int a_nil)))))) (a_cons (e_tup (a_cons e_int (a_cons e_int (a_cons e_int (a_cons e_int (a_cons e_int (a_cons e_int (a_cons e_int (a_cons e_int (a_cons e_int (a_cons e_int a_nil))))))))))) a_nil))))))))) rfl) fun vP H1 s1 _ rP => ?_
    have src1 := src_same hs s1
    obtain ⟨l0, xs0, rfl, hl0, r0⟩ := rp_lst rP
    have n0 : xs0.length = 8 := by
      rw [r0.length, List.length_map]
      rfl
    have ne0 : l0 ≠ s := by
      obtain ⟨a, b, c, e⟩ := src1
      refine ne_of hl0 e fun z => ?_
      injection z with z
      rw [z] at n0
      cases n0
    refine ⟨_, rfl, _, rfl, s, l0, xs0, rfl, src1, ne0, hl0, by omega, by omega, fun j x H2 hx st2 => ?_⟩
    obtain ⟨t, rfl, pl1⟩ := pool_of r0 hx
    have pl2 := Pool.kt pl1 (st2.kt src1)
    refine ⟨_, rfl, by show 5 ≤ sizeLine; decide, fun l1 hl1 => ?_⟩
    have e1 := upd_same (H := H2) (a := l1) (o := .lst [V.str "A", V.str "A", V.str "AB", V.str "CAB", V.str "CB"])
    have sn := same_new (o := .lst [V.str "A", V.str "A", V.str "AB", V.str "CAB", V.str "CB"]) hl1
    generalize upd H2 l1 (.lst [V.str "A", V.str "A", V.str "AB", V.str "CAB", V.str "CB"]) = H3 at e1 sn ⊢
    have src3 := src_same st2.src sn
    have ne1 : l1 ≠ s := by
      obtain ⟨a, b, c, e⟩ := src3
      exact ne_of e1 e (by intro z; cases z)
    refine ⟨s, l1, _, rfl, src3, ne1, e1, by show 0 < 5; decide, by show 5 ≤ 1000; decide, fun j2 x2 H4 hx2 st4 => ?_⟩
    obtain ⟨z, rfl, kz⟩ : ∃ z, x2 = V.str z ∧ KindT z := by
      match j2, hx2 with
      | 0, hx => exact ⟨_, (Option.some.inj hx).symm, kind_ok _ (.head _)⟩
      | 1, hx => exact ⟨_, (Option.some.inj hx).symm, kind_ok _ (.head _)⟩
      | 2, hx => exact ⟨_, (Option.some.inj hx).symm, kind_ok _ (.tail _ (.tail _ (.head _)))⟩
      | 3, hx => exact ⟨_, (Option.some.inj hx).symm, kind_ok _ (.tail _ (.tail _ (.tail _ (.head _))))⟩
      | 4, hx => exact ⟨_, (Option.some.inj hx).symm, kind_ok _ (.tail _ (.tail _ (.tail _ (.tail _ (.head _)))))⟩
      | m + 5, hx => cases (show none = some x2 from hx)
    have pl4 := (pl2.kt (Same.kt sn)).kt (st4.kt src3)
    have kp4 : Kp s H H4 := ((Kp.trans (fun b o _ e => s1 b o e) st2.kp).trans fun b o _ e => sn b o e).trans st4.kp
    refine ⟨_, _, rfl, Nat.zero_le _, fun fo hfo => ?_⟩
    have nfs : fo ≠ s := fun z => by
      obtain ⟨a, b, c, e⟩ := st4.src
      rw [z, e] at hfo
      cases hfo
    have f0 : H fo = none := by
      cases e : H fo with
      | none => rfl
      | some o =>
        rw [kp4 fo o nfs e] at hfo
        cases hfo
    have ini : SInv s t fo H 0 (upd H4 fo (.lst [])) := ⟨kp4.trans (Kp.new hfo), src_new st4.src hfo, pl4.kt (Same.kt (same_new hfo)), f0, nfs, [], [], upd_same, .nil, rfl, fun a h => by cases h⟩
    refine ⟨_, rfl, _, rfl, s, _, rfl, ini.src, by omega, by omega, fun k H6 k0 km st6 => ?_⟩
    obtain ⟨n, rfl⟩ := Int.eq_ofNat_of_zero_le k0
    have en : (1 + (n : Int)).toNat = n + 1 := by omega
    refine ⟨1, _, rfl, rfl, _, rfl, by omega, by omega, for_range (lo := 0) (n := (1 + (n : Int)).toNat) (fun i σ H' => ∃ x5 x6, σ = [some (V.ref s), some (V.int m), some (V.ref t), some (V.str z), some (V.ref fo), x5, x6] ∧ SInv s t fo H i H') ⟨none, none, rfl, ini.stp st6⟩ ?_ ?_⟩
    · rintro i σ H' hi ⟨x5, x6, rfl, W⟩
      have i4 : i < 4 := by omega
      refine ⟨_, rfl, _, rfl, s, z, rfl, W.src, kz.1, kz.2.1, fun c Ha hc sta => ?_⟩
      have Wa := W.stp sta
      obtain ⟨ns, hn, p0, p10, dg1⟩ := Wa.pool
      refine ⟨_, rfl, _, rfl, s, t, ns, rfl, Wa.src, hn, p0, by omega, fun n1 Hb hn1 stb => ?_⟩
      have Wb := Wa.stp stb
      refine ⟨_, rfl, _, rfl, s, t, ns, rfl, Wb.src, stb.tup Wa.src hn, p0, by omega, fun n2 Hc hn2 stc => ⟨by show 3 ≤ sizeLine; decide, fun u hu => ?_⟩⟩
      have Wc := (Wb.stp stc).same (same_new (o := .tup [V.str ⟨#[c]⟩, V.int n1, V.int n2]) hu)
      have ga : Good ⟨⟨#[c]⟩, n1, n2⟩ := ⟨kz.2.2 c hc, (dg1 n1 hn1).1, (dg1 n1 hn1).2, (dg1 n2 hn2).1, (dg1 n2 hn2).2⟩
      have ra : Rp (upd Hc u (.tup [V.str ⟨#[c]⟩, V.int n1, V.int n2])) (.ref u) (atD ⟨⟨#[c]⟩, n1, n2⟩) := .tup upd_same (.cons (.str _) (.cons (.int _) (.cons (.int _) .nil)))
      generalize upd Hc u (.tup [V.str ⟨#[c]⟩, V.int n1, V.int n2]) = H7 at Wc ra ⊢
      refine ⟨fun σ' Hx => ∃ (v : V) (a : At), σ' = [some (V.ref s), some (V.int m), some (V.ref t), some (V.str z), some (V.ref fo), some (V.int (0 + (i : Int))), some v] ∧ Rp Hx v (atD a) ∧ Good a ∧ SInv s t fo H i Hx, ?_, ?_⟩
      · obtain ⟨xs, as, g1, g2, g3, g4⟩ := Wc.at_
        refine go_ifAnd (S := fun _ => false) fr0 (b_test (e_neD (e_var rfl (Rp.lst g1 g2)) (e_lst a_nil) (cq_ats g4).ok cqA_nil.ok)) (fun c1 H8 s8 => ?_) fun c1 H8 s8 => ⟨_, _, rfl, ra.mono s8, ga, Wc.same s8⟩
        have W8 := Wc.same s8
        refine ⟨_, rfl, s, 5, rfl, W8.src, by decide, by decide, fun y Hd y0 y5 std => ⟨rfl, _, rfl, ite2 (fun _ => ?_) fun _ => ⟨_, _, rfl, at_keep (std.kt W8.src) (ra.mono s8), ga, W8.stp std⟩⟩⟩
        have W9 := W8.stp std
        obtain ⟨xs, as, g1, g2, g3, g4⟩ := W9.at_
        have lx := g2.length
        rw [List.length_map] at lx
        have i0 : 0 < xs.length := by
          rw [eqv_nil, List.isEmpty_map] at c1
          obtain ⟨xs', as', _, _, g3', _⟩ := Wc.at_
          cases i with
          | zero =>
            exfalso
            rename_i b1 b2 b3 b4 _ _ _ _
            simp_all
          | succ i => omega
        refine ⟨_, rfl, _, rfl, s, fo, xs, rfl, W9.src, W9.ns, g1, i0, by omega, fun j3 x3 He hx3 ste => ?_⟩
        obtain ⟨a3, ha3, r3⟩ := l_get (enc := atD) g2 hx3
        exact ⟨_, a3, rfl, at_keep (ste.kt W9.src) r3, g4 a3 (List.mem_of_getElem? ha3), W9.stp ste⟩
      clear Wc ra ga
      rintro σ' H7 ⟨v, a, rfl, ra, ga, Wc⟩
      refine ⟨fun σ' Hx => ∃ (v : V) (a : At), σ' = [some (V.ref s), some (V.int m), some (V.ref t), some (V.str z), some (V.ref fo), some (V.int (0 + (i : Int))), some v] ∧ Rp Hx v (atD a) ∧ Good a ∧ SInv s t fo H i Hx, ?_, ?_⟩
      · obtain ⟨xs, as, g1, g2, g3, g4⟩ := Wc.at_
        refine go_ifAnd (S := fun _ => false) fr0 (b_test (e_neD (e_var rfl (Rp.lst g1 g2)) (e_lst a_nil) (cq_ats g4).ok cqA_nil.ok)) (fun c1 H8 s8 => ?_) fun c1 H8 s8 => ⟨_, _, rfl, ra.mono s8, ga, Wc.same s8⟩
        have W8 := Wc.same s8
        refine ⟨_, rfl, s, 4, rfl, W8.src, by decide, by decide, fun y Hd y0 y5 std => ⟨rfl, _, rfl, ite2 (fun _ => ?_) fun _ => ⟨_, _, rfl, at_keep (std.kt W8.src) (ra.mono s8), ga, W8.stp std⟩⟩⟩
        have W9 := W8.stp std
        have i0 : i ≠ 0 := fun z => by
          rw [eqv_nil, List.isEmpty_map] at c1
          rw [z] at g3
          rw [List.eq_nil_of_length_eq_zero g3] at c1
          cases c1
        obtain ⟨xs, as, g1, g2, g3, g4⟩ := W9.at_
        obtain ⟨ys, y1, la, rfl, ml, ry⟩ := rpA_last g2 (by intro z; rw [z] at g3; exact i0 g3.symm)
        obtain ⟨p, rfl, hp⟩ := at_of ry
        obtain ⟨p6, rfl, hp6⟩ := at_of (at_keep (std.kt W8.src) (ra.mono s8))
        have gl := g4 la ml
        refine ⟨_, rfl, p6, _, 0, _, rfl, rfl, .inl (.inl hp6), rfl, ?_⟩
        refine ⟨_, rfl, 1, rfl, fo, _, -1, _, rfl, rfl, .inl (.inl g1), atI_last _ _, p, _, 2, _, rfl, rfl, .inl (.inl hp), rfl, ?_⟩
        refine ⟨_, rfl, p6, _, 2, _, rfl, rfl, .inl (.inl hp6), rfl, by show 3 ≤ sizeLine; decide, fun u hu => ?_⟩
        exact ⟨_, ⟨a.k, la.r, a.r⟩, rfl, .tup upd_same (.cons (.str _) (.cons (.int _) (.cons (.int _) .nil))), ⟨ga.k, gl.r0, gl.r9, ga.r0, ga.r9⟩, W9.same (same_new hu)⟩
      clear Wc ra ga
      rintro σ' H7 ⟨v, a, rfl, ra, ga, Wc⟩
      obtain ⟨xs, as, g1, g2, g3, g4⟩ := Wc.at_
      have lx := g2.length
      rw [List.length_map] at lx
      refine ⟨_, rfl, .inl ⟨rfl, _, .inl (.inl g1)⟩, _, rfl, fo, xs, _, rfl, rfl, g1, small1000 (by omega), ?_⟩
      refine ⟨_, _, rfl, ⟨fun u o hu e => ?_, src_upd Wc.src Wc.ns, Wc.pool.kt (ktu_lst g1), Wc.f0, Wc.ns, _, as ++ [a], upd_same, ?_, ?_, ?_⟩⟩
      · have nuf : u ≠ fo := fun z => by
          rw [z, Wc.f0] at e
          cases e
        rw [upd_ne nuf]
        exact Wc.kp u o hu e
      · rw [List.map_append]
        exact (ats_keep (ktu_lst g1) g2).append (.cons (at_keep (ktu_lst g1) ra) .nil)
      · rw [List.length_append, g3]
        rfl
      · intro c hc
        rcases List.mem_append.mp hc with z | z
        · exact g4 c z
        · rw [List.mem_singleton.mp z]
          exact ga
    · rintro σ H' ⟨x5, x6, rfl, W⟩
      obtain ⟨xs, as, g1, g2, g3, g4⟩ := W.at_
      exact ⟨_, rfl, q fo xs as H' W.f0 W.kp W.src g1 g2 (by omega) (by omega) g4⟩
end
end Q

set_option maxHeartbeats 1000000
namespace Q
open PySem PySem.Spec PyProof.Rows L2 Ca
theorem room66 {k : Nat} {A : Around} (r : Room k A) : A.units + 65 < cLine := by
  have := r.un
  omega
/-! isinstance of anything whose class is known -/
structure IsK (K : PySem.W.Frag) (C : Addr) : Prop where
  one : IsC1 K C
  kd : ∀ T ∈ tyN, PySem.W.kitOne K (.type T) (.ref C) = some false
  kb : ∀ T ∈ tyN, PySem.W.kitOne K (.ref C) (.type T) = some false
theorem tyD_mem (d : PyData) : tyD d ∈ tyN := by
  cases d <;> simp [tyD, tyN]
section
variable {K : PySem.W.Frag} {σ : L2.St} {F : Hp} {ta te : TE} {C : Addr} {P0 : Hp → V → Prop} {t cu : Value} {cv : V} {b : Bool} {d : PyData}
theorem e_isiG (h : EvP ta σ F P0) (m : MonP P0) (hp : ∀ F v, P0 F v → TyX K F v t) (hc : EvP te σ F fun _ v => v = cv) (hv : ClsV cv cu) (kit : PySem.W.kitOne K t cu = some b) : EvD (tCB (rIsi K) (tCons ta (tCons te tNil))) σ F (.bool b) := fun S H1 f s Q q =>
  h S H1 f s _ fun v H2 s2 p => hc S H2 (f.mono s2) (s.trans (offS_mono s2)) _ fun w H3 s3 ew => by
    subst ew
    exact ⟨_, _, _, _, b, rfl, hv, hp _ _ (m _ _ _ ((offS_mono s3).trans offS_same) p), kit, q _ H3 (s2.trans s3) (.bl _)⟩
theorem e_cls {c : V} : EvP (tC c) σ F fun _ v => v = c := fun S H1 f s Q q => q _ H1 (Same.refl _) rfl
/-- isinstance(data, C) -/
theorem e_isiDC (ic : IsK K C) (h : EvD ta σ F d) : EvD (tCB (rIsi K) (tCons ta (tCons (tC (.ref C)) tNil))) σ F (.bool false) := e_isiG h mon_rp (fun _ _ r => r.ty) e_cls (.own C) (ic.kd _ (tyD_mem d))
theorem e_isiTC {ks : List Ro} (cl : Cls K C) (ic : IsK K C) (h : EvP ta σ F (TV C ks)) : EvD (tCB (rIsi K) (tCons ta (tCons (tC (.ref C)) tNil))) σ F (.bool true) := e_isiG h (fun _ _ _ s h => h.mono s) (fun _ _ r => r.ty1 cl ic.one) e_cls (.own C) ic.one.kit
theorem e_isiTB {ks : List Ro} {T : String} (cl : Cls K C) (ic : IsK K C) (hT : T ∈ tyN) (h : EvP ta σ F (TV C ks)) : EvD (tCB (rIsi K) (tCons ta (tCons (tC (.ty T)) tNil))) σ F (.bool false) := e_isiG h (fun _ _ _ s h => h.mono s) (fun _ _ r => r.ty1 cl ic.one) e_cls (.ty T) (ic.kb T hT)
/-- t[n], whatever stands there -/
theorem e_ixO {xs : List V} {n : Nat} {x : V} {P : Hp → V → Prop} (h : EvP ta σ F fun H v => ∃ a, v = .ref a ∧ H a = some (.tup xs)) (hx : xs[n]? = some x) (hp : ∀ F', Same F F' → P F' x) : EvP (tOp (rIxT K) ta (tC (.int (n : Int)))) σ F P := fun S H1 f s Q q =>
  h S H1 f s _ fun v H2 s2 ⟨a, e, ha⟩ => ⟨a, xs, (n : Int), x, e, rfl, .inl (.inl (offS_same _ _ ha)), atI_nat2 hx, q x H2 s2 (hp _ (s.trans (offS_mono s2)))⟩
theorem tv_textT {ks : List Ro} (g : ∀ a ∈ ks, GoodR a) (hz : ks.length ≤ 1000) : ∀ F v, TV C ks F v → ITText C F [v] (fun H v => Rp H v (.str (txr ks))) ∧ ∃ a dx fs, v = .ref a ∧ F a = some (.ins C dx fs) ∧ fs.lookup ("text" : PySem.Str) = none := fun F v h => by
  obtain ⟨a, dx, o, e, h1, r⟩ := id h
  exact ⟨⟨v, ks, rfl, h, hz, g, rfl⟩, a, dx, _, e, h1, tf_no _ (by decide +kernel)⟩
end
end Q

set_option maxHeartbeats 1000000
namespace Q
open PySem PySem.Spec PyProof.Rows L2 Ca
/-- what the atoms of a question are -/
structure Four (as : List At) : Prop where
  g : ∀ a ∈ as, Good a
  l1 : 1 ≤ as.length
  l4 : as.length ≤ 4
theorem e_qone {K : PySem.W.Frag} {σ : L2.St} {F : Hp} {i : Nat} {C : Addr} {as : List At} {v : V} (h : σ[i]? = some (some v)) (q : QV C as F v) : EvP (tVar i) σ F (QV C as) := e_varP h fun _ s => q.mono s
theorem go_asgT2 {K : PySem.W.Frag} {σ : L2.St} {te : TE} {S : Addr → Bool} {H : Hp} {D : L2.Ends} {u : TS} {i j : Nat} {d1 d2 : PyData} (f : Fr S H) (h : EvD te σ (offS S H) (.tuple [d1, d2]))
    (k : ∀ v1 v2 H', Same H H' → Fr S H' → Rp (offS S H') v1 d1 → Rp (offS S H') v2 d2 → u D ((σ.set i (some v1)).set j (some v2)) H') : tSeq (tAsg te (gTup K 2 (gCons (gName i) (gCons (gName j) gNil)))) u D σ H :=
  h S H f (Same.refl _) _ fun v H' s r => gg_tup2 (f.mono s) r fun v1 v2 r1 r2 => k v1 v2 H' s (f.mono s) r1 r2
theorem e_andF {σ : L2.St} {F : Hp} {ta tb : TE} (h : EvD ta σ F (.bool false)) : EvD (tAndV ta tb) σ F (.bool false) := e_and (b := false) h fun z => by cases z
theorem e_orT {σ : L2.St} {F : Hp} {ta tb : TE} (h : EvD ta σ F (.bool true)) : EvD (tOrV ta tb) σ F (.bool true) := e_or (b := true) h fun z => by cases z
theorem b_andF {σ : L2.St} {F : Hp} {ta tb : L2.TT} (h : EvB ta σ F false) : EvB (tAnd ta tb) σ F false := b_and (b := false) h fun z => by cases z
theorem b_orT {σ : L2.St} {F : Hp} {ta tb : L2.TT} (h : EvB ta σ F true) : EvB (tOr ta tb) σ F true := b_or (b := true) h fun z => by cases z
/-- a, b = e1, e2 of what is no data -/
theorem go_par2P {σ : L2.St} {S : Addr → Bool} {H : Hp} {D : L2.Ends} {u : TS} {i j : Nat} {t1 t2 : TE} {P1 P2 : Hp → V → Prop} (f : Fr S H) (h1 : EvP t1 σ (offS S H) P1) (h2 : EvP t2 σ (offS S H) P2) (m1 : ∀ F F' v, Same F F' → P1 F v → P1 F' v) (m2 : ∀ F F' v, Same F F' → P2 F v → P2 F' v)
    (k : ∀ v w H', Same H H' → Fr S H' → P1 (offS S H') v → P2 (offS S H') w → u D ((σ.set i (some v)).set j (some w)) H') : tSeq (tPar i j (tCons t1 (tCons t2 tNil))) u D σ H :=
  h1 S H f (Same.refl _) _ fun v H2 s2 p1 => h2 S H2 (f.mono s2) (offS_mono s2) _ fun w H3 s3 p2 => ⟨v, w, rfl, k v w H3 (s2.trans s3) (f.mono (s2.trans s3)) (m1 _ _ _ (offS_mono s3) p1) p2⟩
end Q

set_option maxHeartbeats 4000000
namespace Q
open PySem PySem.Spec PyProof.Rows L2 Ca TQ GenW
theorem passX {P : Program} {w : World} {X : Cx} : Passes (CX P w) X E0 := fun _ _ _ _ _ _ _ h => by
  obtain ⟨_, _, _, _, _, _, _, _, _, _, _, _, hE⟩ := h
  exact False.elim hE
abbrev oD (as : List At) : PyData := .list (as.map atD)
theorem stopE0 {K : PySem.W.Frag} : NoStop K E0 := fun cls d H h => h.elim
end Q

set_option maxHeartbeats 4000000
namespace Q
open PySem PySem.Spec PyProof.Rows L2 Ca TQ GenW
abbrev s_itv : Stmt := top 51
abbrev n_itv : List PySem.Str := ["thing", "part"]
theorem sc_itv : FnScope n_itv ["thing"] (defScope s_itv) := ⟨rfl, rfl, rfl, by decide +kernel, rfl, by decide +kernel, by decide +kernel⟩
abbrev s_scv : Stmt := top 54
abbrev n_scv : List PySem.Str := ["one", "other", "thing", "found"]
theorem sc_scv : FnScope n_scv ["one", "other", "thing"] (defScope s_scv) := ⟨rfl, rfl, rfl, by decide +kernel, rfl, by decide +kernel, by decide +kernel⟩
def tupVars : PyData → Bool
  | .tuple ds => ds.all fun d => isNum d 0 9
  | _ => false
def Sz (d : PyData) : Prop := ∀ ds, d = .tuple ds → ds.length ≤ 1000
def IItvD : Hp → List V → (Hp → V → Prop) → Prop := fun F vs P => ∃ v d, vs = [v] ∧ Rp F v d ∧ Sz d ∧ P = fun H v => Rp H v (.bool (tupVars d))
theorem tup_ints : ∀ {ds : List PyData}, (ds.all fun d => isNum d 0 9) = true → ∃ l : List Int, ds = l.map .int ∧ ∀ x ∈ l, 0 ≤ x ∧ x ≤ 9
  | [], _ => ⟨[], rfl, fun x h => by cases h⟩
  | d :: ds, h => by
    rw [List.all_cons, Bool.and_eq_true] at h
    obtain ⟨i, rfl, h0, h9⟩ := isNum_is h.1
    obtain ⟨l, rfl, hl⟩ := tup_ints h.2
    exact ⟨i :: l, rfl, fun x hx => (List.mem_cons.mp hx).elim (fun e => e ▸ ⟨h0, h9⟩) (hl x)⟩
/-- what shows_covering says of data -/
noncomputable def showsCv (as bs : List At) (d : PyData) : Bool := tupVars d && ((covs as bs).map tD).any fun z => PyData.eqv z d
def IShC (C : Addr) : Hp → List V → (Hp → V → Prop) → Prop := fun F vs P => ∃ v1 v2 v3 as bs d, vs = [v1, v2, v3] ∧ QV C as F v1 ∧ QV C bs F v2 ∧ Four as ∧ Four bs ∧ Rp F v3 d ∧ Sz d ∧ P = fun H v => Rp H v (.bool (showsCv as bs d))
theorem covs_ok (as bs : List At) : eqOk (.list ((covs as bs).map tD)) = true := (cq_tDs (covs as bs)).ok
section
variable {P : Program} {w : World} {K : PySem.W.Frag} {mg : PySem.Str → Option Value} {base : Heap}
theorem ok_itv {f : Addr} {fd : FuncData} (F : FnP K "is_tuple_of_variables" s_itv f fd) (T : Tx K mg) (D_num : Fd P w K mg base "is_number" 1 ["thing", "least", "most"] (spR RNum)) : FnOk P w K mg base CX0 2 f fd ["thing"] (spQ IItvD) := by
  obtain ⟨f_num, fd_num, G_num, b_num, k_num, m_num⟩ := D_num.ex
  obtain ⟨tMV, gMV⟩ := T.mVar
  refine F.ok sc_itv (spQ_len (by rintro _ _ _ ⟨v, d, rfl, _⟩; rfl)) (fun cdv A outer s H vs Q E hr h => ?_)
  obtain ⟨S, P0, fr, ⟨v, d, rfl, r, sz, rfl⟩, q⟩ := h
  refine ⟨_, PSs.nox (pss_one (ps_ret (pe_and (pe_callB (call_isi : CallR _ _ (rIsi K)) (by rfl) T.isi bIsi (pa_cons (pv 0) (pa_cons (pe_bltn (v := .ty "tuple") (by rfl) T.tup bTup rfl) pa_nil))) (pe_one (pe_callB (cr_all rfl : CallR _ _ (rAll K)) (by rfl) T.all bAll (pa_cons (pe_lc (own := [("part", 1)]) (g := gName 1) rfl sc_itv.nd (pi_tupQ (K := K) rfl (pv 0)) (blkOk_by (own := [("part", 1)]) (N := n_itv) (sc := (defScope s_itv)) (by decide +kernel)) (fun _ _ _ _ _ => (pg_name (i := 1) sc_itv.nd rfl (Or.inl rfl))) (fun _ _ _ _ _ => pts_nil) (fun _ _ _ _ _ => (pe_call G_num (hr.mono (by decide)) rfl m_num k_num b_num .nil pass0 (pa_cons (pv 1) (pa_cons pe_int (pa_cons (pe_glob (v := .int 9) rfl gMV ⟨_, rfl⟩) pa_nil)))))) pa_nil)))))), ?_⟩
  refine go_ret (P := fun H v => Rp H v (.bool (tupVars d))) fr ?_ q
  by_cases ht : isTup d = true
  · cases d with
    | tuple ds =>
      refine eqD (e_and (e_isiT (K := K) (e_var rfl r)) fun _ => e_all (K := K) (e_lcT (K := K) (enc := id) (as := ds) (b := fun _ => true) (ev := fun d => .bool (isNum d 0 9)) (by rw [List.map_id]; exact e_var rfl r) (Nat.le_trans (sz ds rfl) (by decide)) fun d hd y F1 s1 ry => g_name ⟨rfl, b_yes, fun _ => e_call (R := RNum) (a_cons (e_var rfl ry) (a_cons e_int (a_cons e_int a_nil))) ⟨d, 0, 9, rfl, rfl⟩⟩) ?_) ?_
      · intro e he
        rw [filter_yes] at he
        obtain ⟨z, _, rfl⟩ := List.mem_map.mp he
        exact ⟨_, rfl⟩
      · rw [filter_yes, List.all_map]
        rfl
    | _ => cases ht
  · have ht : isTup d = false := by simpa using ht
    refine eqD (e_and (b := false) (e_isiT (K := K) (e_var rfl r)) fun z => by rw [ht] at z; cases z) ?_
    rw [ht, Bool.false_and]
    cases d <;> first | rfl | cases ht
theorem ok_scv {f C N : Addr} {fd : FuncData} (F : FnP K "shows_covering" s_scv f fd) (T : Tx K mg) (D_itv : Fd P w K mg base "is_tuple_of_variables" 2 ["thing"] (spQ IItvD))
    (D_acv : Fd P w K mg base "all_coverings" 5 ["one", "other"] (spQ (ITwo C covD))) : FnOk P w K mg base CX0 6 f fd ["one", "other", "thing"] (spQ (IShC C)) := by
  obtain ⟨f_itv, fd_itv, G_itv, b_itv, k_itv, m_itv⟩ := D_itv.ex
  obtain ⟨f_acv, fd_acv, G_acv, b_acv, k_acv, m_acv⟩ := D_acv.ex
  refine F.ok sc_scv (spQ_len (by rintro _ _ _ ⟨v1, v2, v3, as, bs, d, rfl, _⟩; rfl)) (fun cdv A outer s H vs Q E hr h => ?_)
  obtain ⟨S, P0, fr, ⟨v1, v2, v3, as, bs, d, rfl, q1, q2, fa, fb, r3, sz, rfl⟩, q⟩ := h
  refine ⟨_, PSs.nox (pss_cons (ps_set (i := 3) sc_scv.nd rfl (.inl rfl) (pe_call G_acv (hr.mono (by decide)) rfl m_acv k_acv b_acv .nil pass0 (pa_cons (pv 0) (pa_cons (pv 1) pa_nil))))
      (pss_one (ps_ret (pe_and (pe_call G_itv (hr.mono (by decide)) rfl m_itv k_itv b_itv .nil pass0 (pa_cons (pv 2) pa_nil)) (pe_one (pe_cmpR (op_mem (room66 hr) : OpR _ _ (rMem K false)) (pv 2) (pv 3) (by rfl))))))), ?_⟩
  refine go_setS (P := fun H v => Rp H v (covD as bs)) fr (fun S' H' f' s' Q' q' => ⟨_, rfl, _, rfl, S', fun H v => Rp H v (covD as bs), f', ⟨_, _, as, bs, rfl, q1.mono s', q2.mono s', fa.g, fb.g, fa.l1, fa.l4, fb.l4, rfl⟩, fun v H'' s'' r => q' v H'' s'' r⟩) fun vf H1 s1 fr1 rf => ?_
  have r31 := r3.mono (offS_mono (S := S) s1)
  refine go_ret (P := fun H v => Rp H v (.bool (showsCv as bs d))) fr1 (eqD (e_and (a := tupVars d) (e_call1 (P0 := fun H v => Rp H v d) (e_var rfl r31) fun F v rv => ⟨v, d, rfl, rv, sz, rfl⟩) fun tz => e_memL (K := K) (neg := false) (ds := (covs as bs).map tD) (e_var rfl r31) (e_var rfl rf) ?_ (covs_ok as bs)) ?_) fun v H' s r => q v H' (s1.trans s) r
  · cases d with
    | tuple es =>
      obtain ⟨l, rfl, _⟩ := tup_ints (show (es.all fun d => isNum d 0 9) = true from tz)
      exact (cq_tD l).ok
    | _ => cases tz
  · show PyData.bool (tupVars d && ((((covs as bs).map tD).any fun z => PyData.eqv z d) != false)) = .bool (showsCv as bs d)
    unfold showsCv
    rw [Bool.bne_false]
end
end Q

set_option maxHeartbeats 1000000
namespace Q
open PySem PySem.Spec PyProof.Rows L2 Ca TQ GenW
/-! a tuple of ints shown as a covering -/
def IItvT : Hp → List V → (Hp → V → Prop) → Prop := fun F vs P => ∃ v ns, vs = [v] ∧ TupI ns F v ∧ ns.length ≤ 1000 ∧ P = fun H v => Rp H v (.bool (tupVars (tD ns)))
def IShT (C : Addr) : Hp → List V → (Hp → V → Prop) → Prop := fun F vs P => ∃ v1 v2 v3 as bs ns, vs = [v1, v2, v3] ∧ QV C as F v1 ∧ QV C bs F v2 ∧ Four as ∧ Four bs ∧ TupI ns F v3 ∧ ns.length ≤ 1000 ∧ P = fun H v => Rp H v (.bool (showsCv as bs (tD ns)))
section
variable {P : Program} {w : World} {K : PySem.W.Frag} {mg : PySem.Str → Option Value} {base : Heap}
theorem ok_itvT {f : Addr} {fd : FuncData} (F : FnP K "is_tuple_of_variables" s_itv f fd) (T : Tx K mg) (D_num : Fd P w K mg base "is_number" 1 ["thing", "least", "most"] (spR RNum)) : FnOk P w K mg base CX0 2 f fd ["thing"] (spQ IItvT) := by
  obtain ⟨f_num, fd_num, G_num, b_num, k_num, m_num⟩ := D_num.ex
  obtain ⟨tMV, gMV⟩ := T.mVar
  refine F.ok sc_itv (spQ_len (by rintro _ _ _ ⟨v, ns, rfl, _⟩; rfl)) (fun cdv A outer s H vs Q E hr h => ?_)
  obtain ⟨S, P0, fr, ⟨v, ns, rfl, r, sz, rfl⟩, q⟩ := h
  refine ⟨_, PSs.nox (pss_one (ps_ret (pe_and (pe_callB (call_isi : CallR _ _ (rIsi K)) (by rfl) T.isi bIsi (pa_cons (pv 0) (pa_cons (pe_bltn (v := .ty "tuple") (by rfl) T.tup bTup rfl) pa_nil))) (pe_one (pe_callB (cr_all rfl : CallR _ _ (rAll K)) (by rfl) T.all bAll (pa_cons (pe_lc (own := [("part", 1)]) (g := gName 1) rfl sc_itv.nd (pi_tupQ (K := K) rfl (pv 0)) (blkOk_by (own := [("part", 1)]) (N := n_itv) (sc := (defScope s_itv)) (by decide +kernel)) (fun _ _ _ _ _ => (pg_name (i := 1) sc_itv.nd rfl (Or.inl rfl))) (fun _ _ _ _ _ => pts_nil) (fun _ _ _ _ _ => (pe_call G_num (hr.mono (by decide)) rfl m_num k_num b_num .nil pass0 (pa_cons (pv 1) (pa_cons pe_int (pa_cons (pe_glob (v := .int 9) rfl gMV ⟨_, rfl⟩) pa_nil)))))) pa_nil)))))), ?_⟩
  refine go_ret (P := fun H v => Rp H v (.bool (tupVars (tD ns)))) fr ?_ q
  refine eqD (e_and (a := true) (e_isiTI (K := K) (e_varP rfl fun _ sm => r.mono sm)) fun _ => e_all (K := K) (e_lcTI (K := K) (ns := ns) (b := fun _ => true) (ev := fun n => .bool (isNum (.int n) 0 9)) (e_varP rfl fun _ sm => r.mono sm) (by omega) fun n hn y F1 s1 ry => g_name ⟨rfl, b_yes, fun _ => e_call (R := RNum) (a_cons (e_var rfl ry) (a_cons e_int (a_cons e_int a_nil))) ⟨.int n, 0, 9, rfl, rfl⟩⟩) ?_) ?_
  · intro e he
    rw [filter_yes] at he
    obtain ⟨z, _, rfl⟩ := List.mem_map.mp he
    exact ⟨_, rfl⟩
  · rw [filter_yes, List.all_map]
    show PyData.bool (true && _) = .bool ((ns.map PyData.int).all fun d => isNum d 0 9)
    rw [List.all_map]
    rfl
theorem ok_scvT {f C N : Addr} {fd : FuncData} (F : FnP K "shows_covering" s_scv f fd) (T : Tx K mg) (D_itv : Fd P w K mg base "is_tuple_of_variables" 2 ["thing"] (spQ IItvT))
    (D_acv : Fd P w K mg base "all_coverings" 5 ["one", "other"] (spQ (ITwo C covD))) : FnOk P w K mg base CX0 6 f fd ["one", "other", "thing"] (spQ (IShT C)) := by
  obtain ⟨f_itv, fd_itv, G_itv, b_itv, k_itv, m_itv⟩ := D_itv.ex
  obtain ⟨f_acv, fd_acv, G_acv, b_acv, k_acv, m_acv⟩ := D_acv.ex
  refine F.ok sc_scv (spQ_len (by rintro _ _ _ ⟨v1, v2, v3, as, bs, d, rfl, _⟩; rfl)) (fun cdv A outer s H vs Q E hr h => ?_)
  obtain ⟨S, P0, fr, ⟨v1, v2, v3, as, bs, ns, rfl, q1, q2, fa, fb, r3, sz, rfl⟩, q⟩ := h
  refine ⟨_, PSs.nox (pss_cons (ps_set (i := 3) sc_scv.nd rfl (.inl rfl) (pe_call G_acv (hr.mono (by decide)) rfl m_acv k_acv b_acv .nil pass0 (pa_cons (pv 0) (pa_cons (pv 1) pa_nil))))
      (pss_one (ps_ret (pe_and (pe_call G_itv (hr.mono (by decide)) rfl m_itv k_itv b_itv .nil pass0 (pa_cons (pv 2) pa_nil)) (pe_one (pe_cmpR (op_mem (room66 hr) : OpR _ _ (rMem K false)) (pv 2) (pv 3) (by rfl))))))), ?_⟩
  refine go_setS (P := fun H v => Rp H v (covD as bs)) fr (fun S' H' f' s' Q' q' => ⟨_, rfl, _, rfl, S', fun H v => Rp H v (covD as bs), f', ⟨_, _, as, bs, rfl, q1.mono s', q2.mono s', fa.g, fb.g, fa.l1, fa.l4, fb.l4, rfl⟩, fun v H'' s'' r => q' v H'' s'' r⟩) fun vf H1 s1 fr1 rf => ?_
  have r31 := r3.mono (offS_mono (S := S) s1)
  refine go_ret (P := fun H v => Rp H v (.bool (showsCv as bs (tD ns)))) fr1 (eqD (e_and (a := tupVars (tD ns)) (e_call1 (P0 := TupI ns) (e_varP rfl fun _ sm => r31.mono sm) fun F v rv => ⟨v, ns, rfl, rv, sz, rfl⟩) fun tz => e_memTI (K := K) (ds := (covs as bs).map tD) (e_varP rfl fun _ sm => r31.mono sm) (e_var rfl rf) (cq_tD ns).ok (covs_ok as bs)) rfl) fun v H' s r => q v H' (s1.trans s) r
end
end Q

set_option maxHeartbeats 4000000
namespace Q
open PySem PySem.Spec PyProof.Rows L2 Ca TQ GenW
abbrev s_cvr : Stmt := top 53
abbrev n_cvr : List PySem.Str := ["one", "other"]
theorem sc_cvr : FnScope n_cvr ["one", "other"] (defScope s_cvr) := ⟨rfl, rfl, rfl, by decide +kernel, rfl, by decide +kernel, by decide +kernel⟩
noncomputable def cvB (as bs : List At) : Bool := decide (((covs as bs).length : Int) > 0)
section
variable {P : Program} {w : World} {K : PySem.W.Frag} {mg : PySem.Str → Option Value} {base : Heap}
theorem ok_cvr {f C : Addr} {fd : FuncData} (F : FnP K "covers" s_cvr f fd) (T : Tx K mg) (D_acv : Fd P w K mg base "all_coverings" 5 ["one", "other"] (spQ (ITwo C covD))) : FnOk P w K mg base CX0 6 f fd ["one", "other"] (spQ (ITwo C fun as bs => .bool (cvB as bs))) := by
  obtain ⟨f_acv, fd_acv, G_acv, b_acv, k_acv, m_acv⟩ := D_acv.ex
  refine F.ok sc_cvr (spQ_len (by rintro _ _ _ ⟨v1, v2, as, bs, rfl, _⟩; rfl)) (fun cdv A outer s H vs Q E hr h => ?_)
  obtain ⟨S, P0, fr, ⟨v1, v2, as, bs, rfl, q1, q2, ga, gb, l0, l1, l2, rfl⟩, q⟩ := h
  refine ⟨_, PSs.nox (pss_one (ps_ret (pe_cmpR op_gt (pe_callB (call_lenQ : CallR _ _ (rLenQ K)) (by rfl) T.len bLen (pa_cons (pe_call G_acv (hr.mono (by decide)) rfl m_acv k_acv b_acv .nil pass0 (pa_cons (pv 0) (pa_cons (pv 1) pa_nil))) pa_nil)) pe_int (nomark _)))), ?_⟩
  refine go_ret (P := fun H v => Rp H v (.bool (cvB as bs))) fr (eqD (e_cmp (e_lenL (ds := (covs as bs).map tD) fun S' H' f' s' Q' q' => ⟨_, rfl, _, rfl, S', fun H v => Rp H v (covD as bs), f', ⟨_, _, as, bs, rfl, q1.mono s', q2.mono s', ga, gb, l0, l1, l2, rfl⟩, fun v H'' s'' r => q' v H'' s'' r⟩) e_int) ?_) q
  rw [List.length_map]
  rfl
end
end Q

set_option maxHeartbeats 400000
namespace Q
open PySem PySem.Spec PyProof.Rows L2 Ca
/-! ### the mathematics: a row for each atom -/
def gvn (ps : List (At × Ro)) : List (Int × Int) := (ps.map fun p => (p.1.l, p.2.l)) ++ ps.map fun p => (p.1.r, p.2.r)
def Con (g : List (Int × Int)) : Prop := ∀ p ∈ g, ∀ q ∈ g, q.1 = p.1 → q.2 = p.2
def conB (g : List (Int × Int)) : Bool := g.all fun p => (g.filter fun q => decide (q.1 = p.1)).all fun q => decide (q.2 = p.2)
theorem conB_iff (g : List (Int × Int)) : conB g = true ↔ Con g := by
  unfold conB Con
  simp only [List.all_eq_true, List.mem_filter, decide_eq_true_eq]
  exact ⟨fun h p hp q hq e => h p hp q ⟨hq, e⟩, fun h p hp q hq => h p hp q hq.1 hq.2⟩
theorem gvn_mem {qs : List (At × Ro)} {a : At} {r : Ro} {p : Int × Int} : p ∈ gvn (qs ++ [(a, r)]) ↔ p ∈ gvn qs ∨ p = (a.l, r.l) ∨ p = (a.r, r.r) := by
  unfold gvn
  simp only [List.map_append, List.map_cons, List.map_nil, List.mem_append, List.mem_singleton]
  constructor
  · rintro ((h | h) | (h | h))
    · exact .inl (.inl h)
    · exact .inr (.inl h)
    · exact .inl (.inr h)
    · exact .inr (.inr h)
  · rintro ((h | h) | (h | h))
    · exact .inl (.inl h)
    · exact .inr (.inl h)
    · exact .inl (.inr h)
    · exact .inr (.inr h)
def dicOf (ps : List (At × Ro)) : List (Int × Int) := ps.foldl (fun ns p => mergeI ns (mergeI [] [(p.1.l, p.2.l), (p.1.r, p.2.r)])) []
theorem dic_snoc (qs : List (At × Ro)) (a : At) (r : Ro) : dicOf (qs ++ [(a, r)]) = mergeI (dicOf qs) (mergeI [] [(a.l, r.l), (a.r, r.r)]) := by
  unfold dicOf
  rw [List.foldl_append]
  rfl
theorem con_snoc {qs : List (At × Ro)} {a : At} {r : Ro} : Con (gvn (qs ++ [(a, r)])) ↔ Con (gvn qs) ∧ (∀ v, (a.l, v) ∈ gvn qs → v = r.l) ∧ (∀ v, (a.r, v) ∈ gvn qs → v = r.r) ∧ (a.l = a.r → r.l = r.r) := by
  constructor
  · intro h
    refine ⟨fun p hp q hq => h p (gvn_mem.mpr (.inl hp)) q (gvn_mem.mpr (.inl hq)), fun v hv => ?_, fun v hv => ?_, fun e => ?_⟩
    · exact h (a.l, r.l) (gvn_mem.mpr (.inr (.inl rfl))) (a.l, v) (gvn_mem.mpr (.inl hv)) rfl
    · exact h (a.r, r.r) (gvn_mem.mpr (.inr (.inr rfl))) (a.r, v) (gvn_mem.mpr (.inl hv)) rfl
    · exact h (a.r, r.r) (gvn_mem.mpr (.inr (.inr rfl))) (a.l, r.l) (gvn_mem.mpr (.inr (.inl rfl))) e
  · rintro ⟨h0, h1, h2, h3⟩ ⟨n, v⟩ hp ⟨m, u⟩ hq e
    have e : m = n := e
    subst e
    show u = v
    rcases gvn_mem.mp hp with hp | hp | hp <;> rcases gvn_mem.mp hq with hq | hq | hq
    · exact h0 (m, v) hp (m, u) hq rfl
    · injection hq with q1 q2
      rw [q1] at hp
      rw [q2, h1 v hp]
    · injection hq with q1 q2
      rw [q1] at hp
      rw [q2, h2 v hp]
    · injection hp with p1 p2
      rw [p1] at hq
      rw [p2, h1 u hq]
    · injection hp with p1 p2
      injection hq with q1 q2
      rw [p2, q2]
    · injection hp with p1 p2
      injection hq with q1 q2
      rw [p2, q2]
      exact (h3 (p1.symm.trans q1)).symm
    · injection hp with p1 p2
      rw [p1] at hq
      rw [p2, h2 u hq]
    · injection hp with p1 p2
      injection hq with q1 q2
      rw [p2, q2]
      exact h3 (q1.symm.trans p1)
    · injection hp with p1 p2
      injection hq with q1 q2
      rw [p2, q2]
theorem val_dic : ∀ (m : Nat) (ps : List (At × Ro)), ps.length = m → Con (gvn ps) → ∀ n v, valI (dicOf ps) n = some v ↔ (n, v) ∈ gvn ps := fun m => by
  induction m with
  | zero =>
    intro ps h _ n v
    have e : ps = [] := List.eq_nil_of_length_eq_zero h
    subst e
    simp [dicOf, gvn, valI]
  | succ m ih =>
    intro ps h hc n v
    obtain ⟨qs, ⟨a, r⟩, rfl⟩ : ∃ qs p, ps = qs ++ [p] := by
      have ne : ps ≠ [] := fun z => by rw [z] at h; cases h
      exact ⟨ps.dropLast, ps.getLast ne, (List.dropLast_concat_getLast ne).symm⟩
    have hq : qs.length = m := by simpa using h
    have IH := ih qs hq (con_snoc.mp hc).1 n v
    rw [dic_snoc, val_two, gvn_mem]
    by_cases e1 : n = a.r
    · rw [if_pos e1]
      constructor
      · intro z
        injection z with z
        exact .inr (.inr (by rw [e1, z]))
      · intro z
        have := hc (a.r, r.r) (gvn_mem.mpr (.inr (.inr rfl))) (n, v) (gvn_mem.mpr z) e1
        rw [show v = r.r from this]
    · rw [if_neg e1]
      by_cases e2 : n = a.l
      · rw [if_pos e2]
        constructor
        · intro z
          injection z with z
          exact .inr (.inl (by rw [e2, z]))
        · intro z
          have := hc (a.l, r.l) (gvn_mem.mpr (.inr (.inl rfl))) (n, v) (gvn_mem.mpr z) e2
          rw [show v = r.l from this]
      · rw [if_neg e2, IH]
        constructor
        · exact .inl
        · rintro (z | z | z)
          · exact z
          · injection z with z1 z2
            exact absurd z1 e2
          · injection z with z1 z2
            exact absurd z1 e1
theorem getD_iff {o : Option Int} {x : Int} : o.getD x = x ↔ ∀ v, o = some v → v = x := by
  cases o with
  | none => simp
  | some u => simp
theorem agC_iff {qs : List (At × Ro)} {a : At} {r : Ro} (hc : Con (gvn qs)) : agR (dicOf qs) a r = true ↔ r.k = a.k ∧ Con (gvn (qs ++ [(a, r)])) := by
  rw [con_snoc]
  unfold agR agB
  simp only [Bool.and_eq_true, Bool.not_eq_true', Bool.or_eq_false_iff, Bool.and_eq_false_iff, Bool.not_eq_false', decide_eq_true_eq, decide_eq_false_iff_not, getD_iff, val_dic _ qs rfl hc]
  constructor
  · rintro ⟨⟨h1, h2⟩, h3, h4⟩
    refine ⟨h1, hc, h3, h4, fun e => ?_⟩
    rcases h2 with h2 | h2
    · exact absurd e h2
    · exact h2
  · rintro ⟨h1, _, h3, h4, h5⟩
    refine ⟨⟨h1, ?_⟩, h3, h4⟩
    by_cases e : a.l = a.r
    · exact .inr (h5 e)
    · exact .inl e
/-! the law's own count -/
abbrev RW : Type := List Ro × Int
def lawS (ks : List Ro) (a : At) (f : List RW) : List RW := f.flatMap fun c => (ks.filter fun r => decide (r.k = a.k)).map fun r => (c.1 ++ [r], c.2 * r.n)
def lawF (as : List At) (ks : List Ro) : List RW := as.foldl (fun f a => lawS ks a f) [([], 1)]
theorem lawF_snoc (as : List At) (a : At) (ks : List Ro) : lawF (as ++ [a]) ks = lawS ks a (lawF as ks) := by
  unfold lawF
  rw [List.foldl_append]
  rfl
def okC (as : List At) (c : RW) : Bool := conB (gvn (as.zip c.1))
def lawC (as : List At) (ks : List Ro) : Int := (((lawF as ks).filter (okC as)).map (·.2)).sum
def toC (as : List At) (c : RW) : CW := (dicOf (as.zip c.1), c.2)
theorem lawS_mem {ks : List Ro} {a : At} {f : List RW} {d : RW} (h : d ∈ lawS ks a f) : ∃ c ∈ f, ∃ r ∈ ks, d = (c.1 ++ [r], c.2 * r.n) := by
  obtain ⟨c, hc, h⟩ := List.mem_flatMap.mp h
  obtain ⟨r, hr, rfl⟩ := List.mem_map.mp h
  exact ⟨c, hc, r, (List.mem_filter.mp hr).1, rfl⟩
theorem step_eq (as : List At) (a : At) (ks : List Ro) : ∀ L : List RW, (∀ c ∈ L, c.1.length = as.length) → stepC ks a ((L.filter (okC as)).map (toC as)) = ((lawS ks a L).filter (okC (as ++ [a]))).map (toC (as ++ [a]))
  | [], _ => rfl
  | c :: L, h => by
    have ih := step_eq as a ks L fun d hd => h d (List.mem_cons_of_mem _ hd)
    have lc := h c (List.mem_cons_self)
    have e1 : lawS ks a (c :: L) = ((ks.filter fun r => decide (r.k = a.k)).map fun r => (c.1 ++ [r], c.2 * r.n)) ++ lawS ks a L := rfl
    have ez : ∀ r, (as ++ [a]).zip (c.1 ++ [r]) = as.zip c.1 ++ [(a, r)] := fun r => by rw [List.zip_append lc.symm]; rfl
    rw [e1, List.filter_append, List.map_append, ← ih]
    by_cases ok : okC as c = true
    · rw [List.filter_cons_of_pos ok, List.map_cons]
      show ((ks.filter fun r => agR (toC as c).1 a r).map (nxt a (toC as c))) ++ stepC ks a _ = _
      congr 1
      rw [List.filter_map, List.filter_filter, List.map_map]
      have hc := (conB_iff _).mp ok
      have e2 : (ks.filter fun r => agR (toC as c).1 a r) = ks.filter fun r => (okC (as ++ [a]) ∘ fun r : Ro => ((c.1 ++ [r], c.2 * r.n) : RW)) r && decide (r.k = a.k) := by
        congr 1
        funext r
        rw [Bool.eq_iff_iff, Bool.and_eq_true, decide_eq_true_eq]
        show agR (dicOf (as.zip c.1)) a r = true ↔ conB (gvn ((as ++ [a]).zip (c.1 ++ [r]))) = true ∧ _
        rw [ez, conB_iff, agC_iff hc]
        exact And.comm
      rw [e2]
      congr 1
      funext r
      show nxt a (dicOf (as.zip c.1), c.2) r = (dicOf ((as ++ [a]).zip (c.1 ++ [r])), c.2 * r.n)
      rw [ez, dic_snoc]
      rfl
    · rw [List.filter_cons_of_neg ok]
      have e3 : (((ks.filter fun r => decide (r.k = a.k)).map fun r => ((c.1 ++ [r], c.2 * r.n) : RW)).filter (okC (as ++ [a]))) = [] := by
        rw [List.filter_eq_nil_iff]
        intro d hd z
        obtain ⟨r, _, rfl⟩ := List.mem_map.mp hd
        unfold okC at z ok
        rw [ez, conB_iff] at z
        exact ok ((conB_iff _).mpr (con_snoc.mp z).1)
      rw [e3]
      rfl
theorem chs_eq : ∀ (m : Nat) (as : List At) (ks : List Ro), as.length = m → chs as ks = ((lawF as ks).filter (okC as)).map (toC as) ∧ ∀ c ∈ lawF as ks, c.1.length = as.length := fun m => by
  induction m with
  | zero =>
    intro as ks h
    have e : as = [] := List.eq_nil_of_length_eq_zero h
    subst e
    exact ⟨rfl, fun c hc => by simp [lawF] at hc; rw [hc]; rfl⟩
  | succ m ih =>
    intro as ks h
    obtain ⟨bs, b, rfl⟩ : ∃ bs b, as = bs ++ [b] := by
      have ne : as ≠ [] := fun z => by rw [z] at h; cases h
      exact ⟨as.dropLast, as.getLast ne, (List.dropLast_concat_getLast ne).symm⟩
    obtain ⟨i1, i2⟩ := ih bs ks (by simpa using h)
    rw [chs_snoc, lawF_snoc, i1]
    refine ⟨step_eq bs b ks _ i2, fun d hd => ?_⟩
    obtain ⟨c, hc, r, _, rfl⟩ := lawS_mem hd
    simp [i2 c hc]
/-- the program counts as the law does -/
theorem cnt_law (as : List At) (ks : List Ro) : ((chs as ks).map (·.2)).sum = lawC as ks := by
  rw [(chs_eq _ as ks rfl).1, List.map_map]
  rfl
end Q

set_option maxHeartbeats 400000
namespace Q
open PySem PySem.Spec PyProof.Rows L2 Ca
/-! ### counts as nested sums -/
def ksum (ks : List Ro) (κ : PySem.Str) (g : Int → Int → Int) : Int := (ks.map fun r => if r.k = κ then r.n * g r.l r.r else 0).sum
theorem ksum_nil {κ : PySem.Str} {g : Int → Int → Int} : ksum [] κ g = 0 := rfl
theorem ksum_cons {a : Ro} {ks : List Ro} {κ : PySem.Str} {g : Int → Int → Int} : ksum (a :: ks) κ g = (if a.k = κ then a.n * g a.l a.r else 0) + ksum ks κ g := rfl
theorem ksum_app {ks ls : List Ro} {κ : PySem.Str} {g : Int → Int → Int} : ksum (ks ++ ls) κ g = ksum ks κ g + ksum ls κ g := by
  unfold ksum
  rw [List.map_append, List.sum_append]
theorem ksum_congr {ks : List Ro} {κ : PySem.Str} {g h : Int → Int → Int} (e : ∀ r ∈ ks, r.k = κ → g r.l r.r = h r.l r.r) : ksum ks κ g = ksum ks κ h := by
  induction ks with
  | nil => rfl
  | cons a ks ih =>
    rw [ksum_cons, ksum_cons, ih fun r hr => e r (.tail _ hr)]
    by_cases c : a.k = κ
    · rw [if_pos c, if_pos c, e a (.head _) c]
    · rw [if_neg c, if_neg c]
theorem ksum_perm {ks ls : List Ro} {κ : PySem.Str} {g : Int → Int → Int} (p : ks.Perm ls) : ksum ks κ g = ksum ls κ g := by
  induction p with
  | nil => rfl
  | cons x _ ih => rw [ksum_cons, ksum_cons, ih]
  | swap x y l =>
    rw [ksum_cons, ksum_cons, ksum_cons, ksum_cons]
    omega
  | trans _ _ h1 h2 => exact h1.trans h2
theorem ksum_zero {ks : List Ro} {κ : PySem.Str} {g : Int → Int → Int} (e : ∀ r ∈ ks, r.k = κ → g r.l r.r = 0) : ksum ks κ g = 0 := by
  induction ks with
  | nil => rfl
  | cons a ks ih =>
    rw [ksum_cons, ih fun r hr => e r (.tail _ hr)]
    by_cases c : a.k = κ
    · rw [if_pos c, e a (.head _) c, Int.mul_zero]
      rfl
    · rw [if_neg c]
      rfl
theorem ksum_add {ks : List Ro} {κ : PySem.Str} {g h : Int → Int → Int} : ksum ks κ (fun x y => g x y + h x y) = ksum ks κ g + ksum ks κ h := by
  induction ks with
  | nil => rfl
  | cons a ks ih =>
    rw [ksum_cons, ksum_cons, ksum_cons, ih]
    by_cases c : a.k = κ
    · rw [if_pos c, if_pos c, if_pos c, Int.mul_add]
      omega
    · rw [if_neg c, if_neg c, if_neg c]
      omega
theorem ksum_mul {ks : List Ro} {κ : PySem.Str} {g : Int → Int → Int} {c : Int} : ksum ks κ (fun x y => c * g x y) = c * ksum ks κ g := by
  induction ks with
  | nil =>
    rw [ksum_nil, ksum_nil, Int.mul_zero]
  | cons a ks ih =>
    rw [ksum_cons, ksum_cons, ih, Int.mul_add]
    by_cases d : a.k = κ
    · rw [if_pos d, if_pos d, Int.mul_left_comm]
    · rw [if_neg d, if_neg d, Int.mul_zero]
theorem ksum_le {ks : List Ro} {κ : PySem.Str} {g h : Int → Int → Int} (n0 : ∀ r ∈ ks, 0 ≤ r.n) (e : ∀ r ∈ ks, r.k = κ → g r.l r.r ≤ h r.l r.r) : ksum ks κ g ≤ ksum ks κ h := by
  induction ks with
  | nil => exact Int.le_refl _
  | cons a ks ih =>
    rw [ksum_cons, ksum_cons]
    have i := ih (fun r hr => n0 r (.tail _ hr)) fun r hr => e r (.tail _ hr)
    by_cases c : a.k = κ
    · rw [if_pos c, if_pos c]
      have := Int.mul_le_mul_of_nonneg_left (e a (.head _) c) (n0 a (.head _))
      omega
    · rw [if_neg c, if_neg c]
      omega
theorem ksum_nonneg {ks : List Ro} {κ : PySem.Str} {g : Int → Int → Int} (n0 : ∀ r ∈ ks, 0 ≤ r.n) (e : ∀ r ∈ ks, r.k = κ → 0 ≤ g r.l r.r) : 0 ≤ ksum ks κ g := by
  have := ksum_le (g := fun _ _ => 0) n0 e
  rw [ksum_zero fun _ _ _ => rfl] at this
  exact this
abbrev VF : Type := List (Int × Int) → Int
def sm : List At → List Ro → VF → Int
  | [], _, F => F []
  | a :: as, ks, F => ksum ks a.k fun x y => sm as ks fun vs => F ((x, y) :: vs)
theorem sm_nil {ks : List Ro} {F : VF} : sm [] ks F = F [] := rfl
theorem sm_cons {a : At} {as : List At} {ks : List Ro} {F : VF} : sm (a :: as) ks F = ksum ks a.k fun x y => sm as ks fun vs => F ((x, y) :: vs) := rfl
/-- the values that arise -/
def Fits (n : Nat) (ks : List Ro) (vs : List (Int × Int)) : Prop := vs.length = n ∧ ∀ v ∈ vs, ∃ r ∈ ks, v = (r.l, r.r)
theorem fits_cons {n : Nat} {ks : List Ro} {vs : List (Int × Int)} {r : Ro} (hr : r ∈ ks) (h : Fits n ks vs) : Fits (n + 1) ks ((r.l, r.r) :: vs) :=
  ⟨by rw [List.length_cons, h.1], fun v hv => by
    rcases List.mem_cons.mp hv with e | hv
    · exact ⟨r, hr, e⟩
    · exact h.2 v hv⟩
theorem sm_congr {as : List At} {ks : List Ro} {F G : VF} (e : ∀ vs, Fits as.length ks vs → F vs = G vs) : sm as ks F = sm as ks G := by
  induction as generalizing F G with
  | nil => exact e [] ⟨rfl, fun v hv => by cases hv⟩
  | cons a as ih =>
    rw [sm_cons, sm_cons]
    exact ksum_congr fun r hr _ => ih fun vs hv => e _ (fits_cons hr hv)
theorem sm_le {as : List At} {ks : List Ro} {F G : VF} (n0 : ∀ r ∈ ks, 0 ≤ r.n) (e : ∀ vs, Fits as.length ks vs → F vs ≤ G vs) : sm as ks F ≤ sm as ks G := by
  induction as generalizing F G with
  | nil => exact e [] ⟨rfl, fun v hv => by cases hv⟩
  | cons a as ih =>
    rw [sm_cons, sm_cons]
    exact ksum_le n0 fun r hr _ => ih fun vs hv => e _ (fits_cons hr hv)
theorem sm_zero {as : List At} {ks : List Ro} {F : VF} (e : ∀ vs, Fits as.length ks vs → F vs = 0) : sm as ks F = 0 := by
  induction as generalizing F with
  | nil => exact e [] ⟨rfl, fun v hv => by cases hv⟩
  | cons a as ih =>
    rw [sm_cons]
    exact ksum_zero fun r hr _ => ih fun vs hv => e _ (fits_cons hr hv)
theorem sm_nonneg {as : List At} {ks : List Ro} {F : VF} (n0 : ∀ r ∈ ks, 0 ≤ r.n) (e : ∀ vs, 0 ≤ F vs) : 0 ≤ sm as ks F := by
  have := sm_le (as := as) (F := fun _ => 0) n0 fun vs _ => e vs
  rw [sm_zero fun _ _ => rfl] at this
  exact this
theorem sm_add {as : List At} {ks : List Ro} {F G : VF} : sm as ks (fun vs => F vs + G vs) = sm as ks F + sm as ks G := by
  induction as generalizing F G with
  | nil => rfl
  | cons a as ih =>
    rw [sm_cons, sm_cons, sm_cons, ← ksum_add]
    exact ksum_congr fun r _ _ => ih
theorem sm_mul {as : List At} {ks : List Ro} {F : VF} {c : Int} : sm as ks (fun vs => c * F vs) = c * sm as ks F := by
  induction as generalizing F with
  | nil => rfl
  | cons a as ih =>
    rw [sm_cons, sm_cons, ← ksum_mul]
    exact ksum_congr fun r _ _ => ih
theorem sm_perm {as : List At} {ks ls : List Ro} {F : VF} (p : ks.Perm ls) : sm as ks F = sm as ls F := by
  induction as generalizing F with
  | nil => rfl
  | cons a as ih =>
    rw [sm_cons, sm_cons, ksum_perm p]
    exact ksum_congr fun r _ _ => ih
/-- the kinds alone matter -/
theorem sm_kinds {f : At → At} (hf : ∀ a, (f a).k = a.k) {as : List At} {ks : List Ro} {F : VF} : sm (as.map f) ks F = sm as ks F := by
  induction as generalizing F with
  | nil => rfl
  | cons a as ih =>
    rw [List.map_cons, sm_cons, sm_cons, hf]
    exact ksum_congr fun r _ _ => ih
theorem sm_app {as bs : List At} {ks : List Ro} {F : VF} : sm (as ++ bs) ks F = sm as ks fun vs => sm bs ks fun ws => F (vs ++ ws) := by
  induction as generalizing F with
  | nil => rfl
  | cons a as ih =>
    rw [List.cons_append, sm_cons, sm_cons]
    exact ksum_congr fun r _ _ => ih
/-- more rows, no less -/
theorem sm_more {as : List At} {ks ls : List Ro} {F : VF} (n1 : ∀ r ∈ ks, 0 ≤ r.n) (n2 : ∀ r ∈ ls, 0 ≤ r.n) (e : ∀ vs, 0 ≤ F vs) : sm as ks F ≤ sm as (ks ++ ls) F := by
  induction as generalizing F with
  | nil => exact Int.le_refl _
  | cons a as ih =>
    rw [sm_cons, sm_cons, ksum_app]
    have h1 := ksum_le (g := fun x y => sm as ks fun vs => F ((x, y) :: vs)) (h := fun x y => sm as (ks ++ ls) fun vs => F ((x, y) :: vs)) (κ := a.k) n1 fun r _ _ => ih fun vs => e _
    have h2 := ksum_nonneg (ks := ls) (κ := a.k) (g := fun x y => sm as (ks ++ ls) fun vs => F ((x, y) :: vs)) n2 fun r _ _ => sm_nonneg (fun r hr => (List.mem_append.mp hr).elim (n1 r) (n2 r)) fun vs => e _
    omega
/-- both together, no less than each -/
theorem sm_both {a : At} {as : List At} {ks ls : List Ro} {F : VF} (n1 : ∀ r ∈ ks, 0 ≤ r.n) (n2 : ∀ r ∈ ls, 0 ≤ r.n) (e : ∀ vs, 0 ≤ F vs) : sm (a :: as) ks F + sm (a :: as) ls F ≤ sm (a :: as) (ks ++ ls) F := by
  rw [sm_cons, sm_cons, sm_cons, ksum_app]
  have h1 := ksum_le (g := fun x y => sm as ks fun vs => F ((x, y) :: vs)) (h := fun x y => sm as (ks ++ ls) fun vs => F ((x, y) :: vs)) (κ := a.k) n1 fun r _ _ => sm_more n1 n2 fun vs => e _
  have h2 := ksum_le (g := fun x y => sm as ls fun vs => F ((x, y) :: vs)) (h := fun x y => sm as (ks ++ ls) fun vs => F ((x, y) :: vs)) (κ := a.k) n2 fun r _ _ => by
    have p : (ks ++ ls).Perm (ls ++ ks) := List.perm_append_comm
    show sm as ls _ ≤ sm as (ks ++ ls) _
    rw [sm_perm p]
    exact sm_more n2 n1 fun vs => e _
  omega
/-- those that keep to the rows with a property -/
theorem sm_keep {p : Int × Int → Bool} {as : List At} {ks ls : List Ro} {F : VF} (h1 : ∀ r ∈ ks, p (r.l, r.r) = true) (h2 : ∀ r ∈ ls, p (r.l, r.r) = false) : sm as (ks ++ ls) (fun vs => if vs.all p then F vs else 0) = sm as ks F := by
  induction as generalizing F with
  | nil => rfl
  | cons a as ih =>
    rw [sm_cons, sm_cons, ksum_app]
    have e1 : ksum ls a.k (fun x y => sm as (ks ++ ls) fun vs => if ((x, y) :: vs).all p then F ((x, y) :: vs) else 0) = 0 := ksum_zero fun r hr _ => sm_zero fun vs _ => by
      rw [List.all_cons, h2 r hr]
      rfl
    rw [e1, Int.add_zero]
    refine ksum_congr fun r hr _ => ?_
    rw [← ih]
    refine sm_congr fun vs _ => ?_
    rw [List.all_cons, h1 r hr]
    rfl
/-! ### the counts -/
def gvV (as : List At) (vs : List (Int × Int)) : List (Int × Int) := ((as.zip vs).map fun p => (p.1.l, p.2.1)) ++ (as.zip vs).map fun p => (p.1.r, p.2.2)
def cB (as : List At) (vs : List (Int × Int)) : Int := if conB (gvV as vs) then 1 else 0
def lrR (r : Ro) : Int × Int := (r.l, r.r)
theorem gv_zip (as : List At) (rs : List Ro) : gvn (as.zip rs) = gvV as (rs.map lrR) := by
  unfold gvn gvV
  rw [List.zip_map_right, List.map_map, List.map_map]
  rfl
theorem row_sum (ls : List Ro) (κ : PySem.Str) (c : RW) (G : List Ro → Int) : (((ls.filter fun r => decide (r.k = κ)).map fun r => ((c.1 ++ [r], c.2 * r.n) : RW)).map fun d => d.2 * G d.1).sum = c.2 * (ls.map fun r => if r.k = κ then r.n * G (c.1 ++ [r]) else 0).sum := by
  induction ls with
  | nil =>
    rw [List.map_nil, List.sum_nil, Int.mul_zero]
    rfl
  | cons r ls ih =>
    rw [List.map_cons, List.sum_cons, Int.mul_add, ← ih]
    by_cases e : r.k = κ
    · rw [List.filter_cons_of_pos (by simp [e]), List.map_cons, List.map_cons, List.sum_cons, if_pos e]
      show c.2 * r.n * G (c.1 ++ [r]) + _ = _
      rw [Int.mul_assoc]
    · rw [List.filter_cons_of_neg (by simp [e]), if_neg e, Int.mul_zero, Int.zero_add]
theorem lawF_sum (as : List At) (ks : List Ro) : ∀ (f : List RW) (F : VF), (((as.foldl (fun f a => lawS ks a f) f)).map fun c => c.2 * F (c.1.map lrR)).sum = (f.map fun c => c.2 * sm as ks fun vs => F (c.1.map lrR ++ vs)).sum := by
  induction as with
  | nil =>
    intro f F
    simp only [List.foldl_nil, sm_nil, List.append_nil]
  | cons a as ih =>
    intro f F
    rw [List.foldl_cons, ih]
    have key : ∀ c : RW, ((((ks.filter fun r => decide (r.k = a.k)).map fun r => ((c.1 ++ [r], c.2 * r.n) : RW)).map fun c => c.2 * sm as ks fun vs => F (c.1.map lrR ++ vs)).sum : Int) = c.2 * sm (a :: as) ks fun vs => F (c.1.map lrR ++ vs) := fun c => by
      rw [row_sum ks a.k c (fun rs => sm as ks fun vs => F (rs.map lrR ++ vs)), sm_cons]
      unfold ksum
      congr 2
      refine List.map_congr_left fun r _ => ?_
      rw [List.map_append]
      simp only [List.append_assoc]
      rfl
    induction f with
    | nil => rfl
    | cons c f ih3 =>
      have e1 : lawS ks a (c :: f) = ((ks.filter fun r => decide (r.k = a.k)).map fun r => ((c.1 ++ [r], c.2 * r.n) : RW)) ++ lawS ks a f := rfl
      rw [e1, List.map_append, List.sum_append, ih3, key c, List.map_cons, List.sum_cons]
theorem filter_sum {α : Type} (l : List α) (p : α → Bool) (f : α → Int) : ((l.filter p).map f).sum = (l.map fun a => f a * (if p a then 1 else 0)).sum := by
  induction l with
  | nil => rfl
  | cons a l ih =>
    rw [List.map_cons, List.sum_cons, ← ih]
    cases e : p a with
    | true => rw [List.filter_cons_of_pos e, List.map_cons, List.sum_cons, if_pos rfl, Int.mul_one]
    | false => rw [List.filter_cons_of_neg (by rw [e]; decide), if_neg (by decide), Int.mul_zero, Int.zero_add]
theorem cnt_sm (as : List At) (ks : List Ro) : lawC as ks = sm as ks (cB as) := by
  have h := lawF_sum as ks [([], 1)] (cB as)
  have e : (([(([], 1) : RW)].map fun c => c.2 * sm as ks fun vs => cB as (c.1.map lrR ++ vs)).sum : Int) = sm as ks (cB as) := by
    show 1 * sm as ks (fun vs => cB as ([] ++ vs)) + 0 = _
    rw [Int.one_mul, Int.add_zero]
    rfl
  rw [← e, ← h]
  unfold lawC
  rw [filter_sum]
  congr 1
  refine List.map_congr_left fun c _ => ?_
  unfold okC cB
  rw [gv_zip]
theorem cB_01 (as : List At) (vs : List (Int × Int)) : cB as vs = 0 ∨ cB as vs = 1 := by
  unfold cB
  split
  · exact .inr rfl
  · exact .inl rfl
theorem cB_nonneg (as : List At) (vs : List (Int × Int)) : 0 ≤ cB as vs := by
  rcases cB_01 as vs with e | e <;> omega
theorem cB_of {as : List At} {vs : List (Int × Int)} {bs : List At} {ws : List (Int × Int)} (h : Con (gvV as vs) ↔ Con (gvV bs ws)) : cB as vs = cB bs ws := by
  unfold cB
  have : conB (gvV as vs) = conB (gvV bs ws) := by rw [Bool.eq_iff_iff, conB_iff, conB_iff]; exact h
  rw [this]
theorem cB_yes {as : List At} {vs : List (Int × Int)} (h : Con (gvV as vs)) : cB as vs = 1 := by
  unfold cB
  rw [if_pos ((conB_iff _).mpr h)]
theorem cB_no {as : List At} {vs : List (Int × Int)} (h : ¬ Con (gvV as vs)) : cB as vs = 0 := by
  unfold cB
  rw [if_neg fun z => h ((conB_iff _).mp z)]
theorem cB_con {as : List At} {vs : List (Int × Int)} (h : cB as vs = 1) : Con (gvV as vs) := Classical.byContradiction fun z => by
  rw [cB_no z] at h
  cases h
theorem cB_prod {as : List At} {vs : List (Int × Int)} {bs : List At} {ws : List (Int × Int)} {cs : List At} {us : List (Int × Int)} (h : Con (gvV cs us) ↔ Con (gvV as vs) ∧ Con (gvV bs ws)) : cB cs us = cB as vs * cB bs ws := by
  by_cases h1 : Con (gvV as vs)
  · by_cases h2 : Con (gvV bs ws)
    · rw [cB_yes h1, cB_yes h2, cB_yes (h.mpr ⟨h1, h2⟩)]
      rfl
    · rw [cB_no h2, cB_no fun z => h2 (h.mp z).2, Int.mul_zero]
  · rw [cB_no h1, cB_no fun z => h1 (h.mp z).1, Int.zero_mul]
end Q

set_option maxHeartbeats 1000000
namespace Q
open PySem PySem.Spec PyProof.Rows L2 Ca
/-! ### counts: the atoms in another order, renamed, covered -/
theorem ksum_swap {ks ls : List Ro} {κ μ : PySem.Str} {g : Int → Int → Int → Int → Int} : (ksum ks κ fun x y => ksum ls μ fun u v => g x y u v) = ksum ls μ fun u v => ksum ks κ fun x y => g x y u v := by
  induction ks with
  | nil =>
    simp only [ksum_nil]
    exact (ksum_zero fun _ _ _ => rfl).symm
  | cons a ks ih =>
    simp only [ksum_cons]
    rw [ksum_add, ih]
    congr 1
    by_cases e : a.k = κ
    · simp only [if_pos e]
      exact ksum_mul.symm
    · simp only [if_neg e]
      exact (ksum_zero fun _ _ _ => rfl).symm
theorem sm_any {as bs : List At} (p : as.Perm bs) (ks : List Ro) : ∀ Φ : List (At × (Int × Int)) → Int, (∀ ps qs : List (At × (Int × Int)), ps.Perm qs → Φ ps = Φ qs) → sm as ks (fun vs => Φ (as.zip vs)) = sm bs ks fun vs => Φ (bs.zip vs) := by
  induction p with
  | nil => intro Φ _; rfl
  | cons a _ ih =>
    intro Φ h
    simp only [sm_cons, List.zip_cons_cons]
    refine ksum_congr fun r _ _ => ?_
    exact ih (fun ps => Φ ((a, (r.l, r.r)) :: ps)) fun ps qs pq => h _ _ (pq.cons _)
  | swap a b l =>
    intro Φ h
    simp only [sm_cons, List.zip_cons_cons]
    rw [ksum_swap]
    refine ksum_congr fun r _ _ => ksum_congr fun t _ _ => ?_
    refine sm_congr fun vs _ => h _ _ (List.Perm.swap _ _ _)
  | trans _ _ i1 i2 =>
    intro Φ h
    exact (i1 Φ h).trans (i2 Φ h)
def cZ (ps : List (At × (Int × Int))) : Int := if conB ((ps.map fun p => (p.1.l, p.2.1)) ++ ps.map fun p => (p.1.r, p.2.2)) then 1 else 0
theorem cZ_eq (as : List At) (vs : List (Int × Int)) : cB as vs = cZ (as.zip vs) := rfl
theorem con_mem {g h : List (Int × Int)} (e : ∀ p, p ∈ g ↔ p ∈ h) : Con g ↔ Con h := ⟨fun c p hp q hq => c p ((e p).mpr hp) q ((e q).mpr hq), fun c p hp q hq => c p ((e p).mp hp) q ((e q).mp hq)⟩
theorem cZ_perm {ps qs : List (At × (Int × Int))} (p : ps.Perm qs) : cZ ps = cZ qs := by
  unfold cZ
  have e : conB ((ps.map fun p => (p.1.l, p.2.1)) ++ ps.map fun p => (p.1.r, p.2.2)) = conB ((qs.map fun p => (p.1.l, p.2.1)) ++ qs.map fun p => (p.1.r, p.2.2)) := by
    rw [Bool.eq_iff_iff, conB_iff, conB_iff]
    exact con_mem fun z => ((p.map _).append (p.map _)).mem_iff
  rw [e]
theorem cnt_orders {as bs : List At} (p : as.Perm bs) (ks : List Ro) : lawC as ks = lawC bs ks := by
  rw [cnt_sm, cnt_sm]
  exact sm_any p ks cZ fun _ _ => cZ_perm
theorem gv_rnm (g : Int → Int) (as : List At) (vs : List (Int × Int)) : gvV (as.map (rnm g)) vs = (gvV as vs).map fun p => (g p.1, p.2) := by
  unfold gvV
  rw [List.map_append, List.map_map, List.map_map, List.zip_map_left, List.map_map, List.map_map]
  rfl
theorem gv_var {as : List At} {vs : List (Int × Int)} {p : Int × Int} (h : p ∈ gvV as vs) : p.1 ∈ nms as := by
  refine sd_mem.mpr (mem_vars.mpr ?_)
  unfold gvV at h
  rcases (List.mem_append).mp h with h | h
  · obtain ⟨q, hq, rfl⟩ := List.mem_map.mp h
    exact ⟨q.1, (List.of_mem_zip hq).1, .inl rfl⟩
  · obtain ⟨q, hq, rfl⟩ := List.mem_map.mp h
    exact ⟨q.1, (List.of_mem_zip hq).1, .inr rfl⟩
theorem con_rnm {g : Int → Int} {as : List At} {vs : List (Int × Int)} (inj : ∀ x ∈ nms as, ∀ y ∈ nms as, g x = g y → x = y) : Con (gvV (as.map (rnm g)) vs) ↔ Con (gvV as vs) := by
  rw [gv_rnm]
  constructor
  · intro c p hp q hq e
    exact c (g p.1, p.2) (List.mem_map.mpr ⟨p, hp, rfl⟩) (g q.1, q.2) (List.mem_map.mpr ⟨q, hq, rfl⟩) (congrArg g e)
  · intro c p hp q hq e
    obtain ⟨p', hp', rfl⟩ := List.mem_map.mp hp
    obtain ⟨q', hq', rfl⟩ := List.mem_map.mp hq
    exact c p' hp' q' hq' (inj _ (gv_var hq') _ (gv_var hp') e)
theorem con_cov {g : Int → Int} {as : List At} {vs : List (Int × Int)} (h : Con (gvV (as.map (rnm g)) vs)) : Con (gvV as vs) := by
  rw [gv_rnm] at h
  exact fun p hp q hq e => h (g p.1, p.2) (List.mem_map.mpr ⟨p, hp, rfl⟩) (g q.1, q.2) (List.mem_map.mpr ⟨q, hq, rfl⟩) (congrArg g e)
theorem cnt_rnm {g : Int → Int} {as : List At} (inj : ∀ x ∈ nms as, ∀ y ∈ nms as, g x = g y → x = y) (ks : List Ro) : lawC (as.map (rnm g)) ks = lawC as ks := by
  rw [cnt_sm, cnt_sm, sm_kinds (f := rnm g) fun _ => rfl]
  exact sm_congr fun vs _ => cB_of (con_rnm inj)
theorem cnt_ren {as bs : List At} {g : Int → Int} (r : Ren as bs g) (ks : List Ro) : lawC as ks = lawC bs ks := by
  rw [← cnt_orders r.pm ks, cnt_rnm r.inj]
theorem cnt_cov {as bs : List At} {g : Int → Int} (p : (as.map (rnm g)).Perm bs) {ks : List Ro} (n0 : ∀ r ∈ ks, 0 ≤ r.n) : lawC bs ks ≤ lawC as ks := by
  rw [← cnt_orders p ks, cnt_sm, cnt_sm, sm_kinds (f := rnm g) fun _ => rfl]
  refine sm_le n0 fun vs _ => ?_
  rcases cB_01 (as.map (rnm g)) vs with e | e
  · rw [e]
    exact cB_nonneg _ _
  · rw [e, cB_yes (con_cov (cB_con e))]
    exact Int.le_refl _
end Q

set_option maxHeartbeats 1000000
namespace Q
open PySem PySem.Spec PyProof.Rows L2 Ca
/-! ### coverings behind coverings -/
def bhd (σ τ ns : List Int) : List Int := σ.map fun x => apl ns τ x
theorem dig_cov {as bs : List At} (fb : Four bs) {σ : List Int} (h : isCov as bs σ) : ∀ x ∈ σ, 0 ≤ x ∧ x ≤ 9 := fun x hx => by
  have := cov_bd fb.g h x hx
  omega
theorem shows_cov {as bs : List At} (fb : Four bs) {σ : List Int} (h : isCov as bs σ) : showsCv as bs (tD σ) = true := by
  unfold showsCv
  rw [Bool.and_eq_true, List.any_eq_true]
  refine ⟨?_, tD σ, List.mem_map.mpr ⟨σ, (mem_covs fb.g).mpr h, rfl⟩, ?_⟩
  · show ((σ.map PyData.int).all fun d => isNum d 0 9) = true
    rw [List.all_eq_true]
    intro e he
    obtain ⟨x, hx, rfl⟩ := List.mem_map.mp he
    have := dig_cov fb h x hx
    show (decide (0 ≤ x) && decide (x ≤ 9)) = true
    rw [decide_eq_true this.1, decide_eq_true this.2]
    rfl
  · show PyData.eqvAll (σ.map .int) (σ.map .int) = true
    clear h
    induction σ with
    | nil => simp [PyData.eqvAll]
    | cons a l ih =>
      show (PyData.eqv (.int a) (.int a) && PyData.eqvAll (l.map .int) (l.map .int)) = true
      rw [ih]
      simp [PyData.eqv]
theorem cov_vars {as bs : List At} {σ : List Int} (h : isCov as bs σ) (x : Int) : x ∈ σ ↔ x ∈ nms bs := by
  obtain ⟨hl, p⟩ := h
  have e : σ = (nms as).map (apl (nms as) σ) := (map_apl (nms_nd as) hl).symm
  have hv : ∀ y, y ∈ vars bs ↔ y ∈ vars (as.map (rnm (apl (nms as) σ))) := fun y => by
    constructor
    · intro h
      obtain ⟨b, hb, z⟩ := mem_vars.mp h
      exact mem_vars.mpr ⟨b, p.mem_iff.mpr hb, z⟩
    · intro h
      obtain ⟨b, hb, z⟩ := mem_vars.mp h
      exact mem_vars.mpr ⟨b, p.mem_iff.mp hb, z⟩
  constructor
  · intro hx
    rw [e] at hx
    obtain ⟨z, hz, rfl⟩ := List.mem_map.mp hx
    refine sd_mem.mpr ((hv _).mpr ?_)
    obtain ⟨a, ha, z⟩ := mem_vars.mp (sd_mem.mp hz)
    refine mem_vars.mpr ⟨_, List.mem_map.mpr ⟨a, ha, rfl⟩, ?_⟩
    rcases z with z | z
    · exact .inl (by rw [z]; rfl)
    · exact .inr (by rw [z]; rfl)
  · intro hx
    obtain ⟨b, hb, z⟩ := mem_vars.mp ((hv x).mp (sd_mem.mp hx))
    obtain ⟨a, ha, rfl⟩ := List.mem_map.mp hb
    rw [e]
    rcases z with z | z
    · exact List.mem_map.mpr ⟨a.l, sd_mem.mpr (vl_in ha), z.symm⟩
    · exact List.mem_map.mpr ⟨a.r, sd_mem.mpr (vr_in ha), z.symm⟩
theorem cov_bhd {as bs cs : List At} {σ τ : List Int} (h1 : isCov as bs σ) (h2 : isCov bs cs τ) : isCov as cs (bhd σ τ (nms bs)) := by
  obtain ⟨l1, p1⟩ := h1
  obtain ⟨l2, p2⟩ := h2
  refine ⟨by unfold bhd; rw [List.length_map]; exact l1, ?_⟩
  have e : as.map (rnm (apl (nms as) (bhd σ τ (nms bs)))) = (as.map (rnm (apl (nms as) σ))).map (rnm (apl (nms bs) τ)) := by
    rw [List.map_map]
    have key : ∀ x ∈ nms as, apl (nms as) (bhd σ τ (nms bs)) x = apl (nms bs) τ (apl (nms as) σ x) := fun x hx => by
      have e1 : σ = (nms as).map (apl (nms as) σ) := (map_apl (nms_nd as) l1).symm
      have e2 : bhd σ τ (nms bs) = (nms as).map fun y => apl (nms bs) τ (apl (nms as) σ y) := by
        unfold bhd
        conv => lhs; rw [e1]
        rw [List.map_map]
        rfl
      rw [e2, apl_map hx]
    refine List.map_congr_left fun a ha => ?_
    show (⟨a.k, apl (nms as) (bhd σ τ (nms bs)) a.l, apl (nms as) (bhd σ τ (nms bs)) a.r⟩ : At) = ⟨a.k, apl (nms bs) τ (apl (nms as) σ a.l), apl (nms bs) τ (apl (nms as) σ a.r)⟩
    rw [key _ (sd_mem.mpr (vl_in ha)), key _ (sd_mem.mpr (vr_in ha))]
  rw [e]
  exact (p1.map _).trans p2
theorem cvB_iff {as bs : List At} (fb : Four bs) : cvB as bs = true ↔ ∃ σ, isCov as bs σ := by
  unfold cvB
  rw [decide_eq_true_iff]
  constructor
  · intro h
    cases e : covs as bs with
    | nil =>
      rw [e] at h
      simp at h
    | cons σ l => exact ⟨σ, (mem_covs fb.g).mp (by rw [e]; exact .head _)⟩
  · rintro ⟨σ, h⟩
    have := List.length_pos_of_mem ((mem_covs fb.g).mpr h)
    omega
theorem cvB_ne {as bs : List At} : cvB as bs = !((covs as bs).isEmpty) := by
  unfold cvB
  cases covs as bs with
  | nil => rfl
  | cons a l =>
    rw [List.length_cons, decide_eq_true (by omega)]
    rfl
/-- the count of what covers is at least that of what is covered -/
theorem cvB_cnt {as bs : List At} (fb : Four bs) (h : cvB as bs = true) {ks : List Ro} (n0 : ∀ r ∈ ks, 0 ≤ r.n) : cntC bs ks ≤ cntC as ks := by
  obtain ⟨σ, _, p⟩ := (cvB_iff fb).mp h
  have e1 : cntC bs ks = lawC bs ks := cnt_law bs ks
  have e2 : cntC as ks = lawC as ks := cnt_law as ks
  rw [e1, e2]
  exact cnt_cov p n0
theorem cvB_vars {as bs : List At} (fb : Four bs) (h : cvB as bs = true) : (nms bs).length ≤ (nms as).length := by
  obtain ⟨σ, hc⟩ := (cvB_iff fb).mp h
  rw [← hc.1]
  exact nd_len (nms_nd bs) fun x hx => (cov_vars hc x).mpr hx
theorem cvB_self {as : List At} (fa : Four as) : cvB as as = true := (cvB_iff fa).mpr ⟨_, cov_self as⟩
end Q

set_option maxHeartbeats 1000000
namespace Q
open PySem PySem.Spec PyProof.Rows L2 Ca TQ GenW
abbrev s_bhd : Stmt := top 68
abbrev n_bhd : List PySem.Str := ["_law_first", "_law_second", "_law_names_here", "_law_name"]
theorem sc_bhd : FnScope n_bhd ["_law_first", "_law_second", "_law_names_here"] (defScope s_bhd) := ⟨rfl, rfl, rfl, by decide +kernel, rfl, by decide +kernel, by decide +kernel⟩
def IBhd : Hp → List V → (Hp → V → Prop) → Prop := fun F vs P => ∃ v1 v2 v3 σ τ ns, vs = [v1, v2, v3] ∧ Rp F v1 (tD σ) ∧ Rp F v2 (tD τ) ∧ FzI ns F v3 ∧ (∀ x ∈ σ, x ∈ ns) ∧ τ.length = ns.length ∧ σ.length ≤ 1000 ∧ P = fun H v => Rp H v (tD (bhd σ τ ns))
section
variable {P : Program} {w : World} {K : PySem.W.Frag} {mg : PySem.Str → Option Value} {base : Heap}
theorem ok_bhd {f : Addr} {fd : FuncData} (F : FnP K "_law_behind" s_bhd f fd) (T : Tx K mg) : FnOk P w K mg base CX0 1 f fd ["_law_first", "_law_second", "_law_names_here"] (spQ IBhd) := by
  refine F.ok sc_bhd (spQ_len (by rintro _ _ _ ⟨v1, v2, v3, _, _, _, rfl, _⟩; rfl)) (fun cdv A outer s H vs Q E hr h => ?_)
  obtain ⟨S, P0, fr, ⟨v1, v2, v3, σ, τ, ns, rfl, r1, r2, r3, hi, hl, hz, rfl⟩, q⟩ := h
  refine ⟨_, PSs.nox (pss_one (ps_ret (pe_callTy (call_tupQ : CallR _ _ (rTupQ K)) (by rfl) T.tup bTup (pa_cons (pe_lc (own := [("_law_name", 3)]) (g := gName 3) rfl sc_bhd.nd (pi_tupQ (K := K) rfl (pv 0)) (blkOk_by (own := [("_law_name", 3)]) (N := n_bhd) (sc := (defScope s_bhd)) (by decide +kernel)) (fun _ _ _ _ _ => (pg_name (i := 3) sc_bhd.nd rfl (Or.inl rfl))) (fun _ _ _ _ _ => pts_nil) (fun _ _ _ _ _ => (pe_ix (ix_tup : IxR _ (rIxT K)) (pv 1) (pe_tixF (pv 2) (pv 3)) (fun _ _ => rfl)))) pa_nil)))), ?_⟩
  refine go_ret (P := fun H v => Rp H v (tD (bhd σ τ ns))) fr (eqD (e_tupOf (e_lcT (enc := PyData.int) (as := σ) (b := fun _ => true) (ev := fun x => .int (apl ns τ x)) (e_var rfl r1) (by omega) fun x hx y F2 sF r => g_name ⟨rfl, b_yes, fun _ => ?_⟩)) ?_) q
  · have hj : ns.idxOf x < τ.length := by
      rw [hl]
      exact List.idxOf_lt_length_of_mem (hi x hx)
    refine e_ixT (n := ns.idxOf x) (e_var rfl (r2.mono sF)) (e_tixF (e_varP rfl fun _ sm => (r3.mono sF).mono sm) (e_var rfl r) (hi x hx)) ?_ ?_
    · rfl
    · show (τ.map PyData.int)[ns.idxOf x]? = some (PyData.int (apl ns τ x))
      rw [List.getElem?_map, List.getElem?_eq_getElem hj]
      show some (PyData.int τ[ns.idxOf x]) = _
      unfold apl
      rw [List.getD_eq_getElem?_getD, List.getElem?_eq_getElem hj]
      rfl
  · rw [filter_yes]
    unfold bhd tD
    rw [List.map_map]
    rfl
end
end Q

set_option maxHeartbeats 4000000
namespace Q
open PySem PySem.Spec PyProof.Rows L2 Ca
/-! ### _law_words, _law_names -/
abbrev s_lwords : Stmt := top 62
abbrev s_lnames : Stmt := top 64
theorem sc_lwords : FnScope ["_law_atoms", "_law_kind", "_law_left", "_law_right"] ["_law_atoms"] (defScope s_lwords) := ⟨rfl, rfl, rfl, by decide +kernel, rfl, by decide +kernel, by decide +kernel⟩
theorem sc_lnames : FnScope ["_law_atoms", "_law_name", "_law_atom"] ["_law_atoms"] (defScope s_lnames) := ⟨rfl, rfl, rfl, by decide +kernel, rfl, by decide +kernel, by decide +kernel⟩
def RWords : List PyData → PyData → Prop := fun ds d => ∃ as : List At, ds = [.list (as.map atD)] ∧ as.length ≤ 30 ∧ (∀ a ∈ as, Good a) ∧ d = .str (txt as)
def lcSc : Expr → Scope
  | .ListComp _ _ sc _ => sc
  | _ => ⟨.function, [], false, false, []⟩
def retE : Stmt → Expr
  | .Return (some e) _ => e
  | _ => .Constant .none 0 ⟨0, 0, 0, 0⟩
/-- the variables below n, ascending -/
def nms10 (as : List At) : List Nat := (List.range 10).filter fun n => as.any fun a => ((n : Int) == a.l) || ((n : Int) == a.r)
def RNames : List PyData → PyData → Prop := fun ds d => ∃ as : List At, ds = [.list (as.map atD)] ∧ as.length ≤ 30 ∧ d = .list ((nms10 as).map fun n : Nat => .int (n : Int))
theorem len_le {x y : PySem.Str} {m n k : Nat} (hx : x.length ≤ m) (hy : y.length ≤ n) (h : m + n ≤ k) : x.length + y.length ≤ k := by omega
section
variable {P : Program} {w : World} {K : PySem.W.Frag} {mg : PySem.Str → Option Value} {base : Heap}
theorem ok_lwords {f : Addr} {fd : FuncData} (F : FnP K "_law_words" s_lwords f fd) (T : Tx K mg) : FnOk P w K mg base CX0 1 f fd ["_law_atoms"] (spR RWords) := by
  refine F.ok sc_lwords (spR_len (by rintro _ _ ⟨as, rfl, _⟩; rfl)) (fun cdv A outer s H vs Q E hr h => ?_)
  obtain ⟨S, ds, d, fr, rA, ⟨as, rfl, hz, hg, rfl⟩, q⟩ := h
  obtain ⟨v0, rfl, r0⟩ := rpa1 rA
  refine ⟨_, PSs.nox (pss_one (ps_ret (pe_join pe_str (pe_lc (own := [("_law_kind", 1), ("_law_left", 2), ("_law_right", 3)]) (g := gTup K 3 (gCons (gName 1) (gCons (gName 2) (gCons (gName 3) gNil)))) rfl sc_lwords.nd (pi_list (pv 0) : PI _ _ _ (iList K _)) (blkOk_by (own := [("_law_kind", 1), ("_law_left", 2), ("_law_right", 3)]) (N := ["_law_atoms", "_law_kind", "_law_left", "_law_right"]) (sc := defScope s_lwords) (by decide +kernel)) (fun _ _ _ _ _ => pg_tup (by rfl) (pgs_cons (pg_name (i := 1) sc_lwords.nd rfl (Or.inl rfl)) (pgs_cons (pg_name (i := 2) sc_lwords.nd rfl (Or.inl rfl)) (pgs_cons (pg_name (i := 3) sc_lwords.nd rfl (Or.inl rfl)) pgs_nil)))) (fun _ _ _ _ _ => pts_nil) (fun _ _ _ _ _ => (pe_op op_add_str (pe_op op_add_str (pv 1) (pe_callTy call_str_int (by rfl) T.str bStr (pa_cons (pv 2) pa_nil))) (pe_callTy call_str_int (by rfl) T.str bStr (pa_cons (pv 3) pa_nil))))) : PE _ _ (tM1 (rJoinQ K) _ _)))), ?_⟩
  refine go_ret (P := fun H v => Rp H v (.str (txt as))) fr (eqD (e_joinL e_str (e_lcL (enc := atD) (e_var rfl r0) ?_ fun t5 ht6 x1 F2 sF3 r4 => g_tup3 r4 fun v10 v11 v12 q7 q8 q9 => ⟨rfl, b_yes, fun _ => (e_addS (e_addS (e_var rfl q7) (e_strI (e_var rfl q8) ?_) ?_) (e_strI (e_var rfl q9) ?_) ?_)⟩) ?_ ?_) ?_) q
  · omega
  · have := hg t5 ht6
    exact dig_log this.l0 this.l9
  · have := hg t5 ht6
    rw [kind_len this.k, dig_len this.l0 this.l9]
    decide
  · have := hg t5 ht6
    exact dig_log this.r0 this.r9
  · have := hg t5 ht6
    rw [len_app, kind_len this.k, dig_len this.l0 this.l9, dig_len this.r0 this.r9]
    decide
  · intro d hd
    obtain ⟨a, _, rfl⟩ := List.mem_map.mp hd
    exact ⟨_, rfl⟩
  · rw [filter_yes, List.map_map (g := strD)]
    have e := sum_len hg
    have e1 : (PySem.Str.ofString " ").length = 1 := by decide +kernel
    show ((as.map atT).map (·.length)).sum + (as.map atT).length * _ ≤ _
    rw [e, List.length_map, e1]
    omega
  · rw [filter_yes, List.map_map]
    rfl

theorem ok_lnames {f : Addr} {fd : FuncData} (F : FnP K "_law_names" s_lnames f fd) (T : Tx K mg) : FnOk P w K mg base CX0 1 f fd ["_law_atoms"] (spR RNames) := by
  refine F.ok sc_lnames (spR_len (by rintro _ _ ⟨as, rfl, _⟩; rfl)) (fun cdv A outer s H vs Q E hr h => ?_)
  obtain ⟨S, ds, d, fr, rA, ⟨as, rfl, hz, rfl⟩, q⟩ := h
  obtain ⟨v0, rfl, r0⟩ := rpa1 rA
  refine ⟨_, PSs.nox (pss_one (ps_ret (pe_lc (own := [("_law_name", 1)]) (g := gName 1) rfl sc_lnames.nd (pi_range1 rfl T.range (pa_cons pe_int pa_nil)) (blkOk_by (own := [("_law_name", 1)]) (N := ["_law_atoms", "_law_name", "_law_atom"]) (sc := defScope s_lnames) (by decide +kernel)) (fun _ _ _ _ _ => pg_name (i := 1) sc_lnames.nd rfl (Or.inr rfl)) (fun _ _ _ _ _ => (pts_one (pt_cmpR (op_neD hr.units : OpR _ _ (rNeD K)) (pe_lc (own := [("_law_atom", 2)]) (g := gName 2) rfl sc_lnames.nd (pi_list (pv 0) : PI _ _ _ (iList K _)) (blkOk_by (own := [("_law_atom", 2)]) (N := ["_law_atoms", "_law_name", "_law_atom"]) (sc := (relS (lcSc (retE ((defBody s_lnames).getD 0 (.Pass ⟨0, 0, 0, 0⟩)))) (defScope s_lnames))) (by decide +kernel)) (fun _ _ _ _ _ => pg_name (i := 2) sc_lnames.nd rfl (Or.inl rfl)) (fun _ _ _ _ _ => (pts_one (pt_cmpR (op_in_seq : OpR _ _ (rIn K false)) (pv 1) (pe_slice (sl_tupA : SlR _ (rSlA K)) (pv 2) (po_some pe_int) po_none) (by rfl)))) (fun _ _ _ _ _ => pe_int)) (pe_lst pa_nil) (nomark _)))) (fun _ _ _ _ _ => (pv 1))))), ?_⟩
  refine go_ret (P := fun H v => Rp H v _) fr (eqD (e_lcR (a_cons e_int a_nil) ?_ fun t5 ht6 x1 F2 sF3 r4 => g_name ⟨rfl, (b_test (e_neD (e_lcL (enc := atD) (e_var rfl (r0.mono sF3)) ?_ fun t11 ht12 x7 F8 sF9 r10 => g_name ⟨rfl, (b_test (e_inD (e_var rfl (r4.mono sF9)) (e_slT (e_var rfl r10) (o_some e_int) o_none) ?_)), fun _ => e_int⟩) (e_lst a_nil) ?_ ?_)), fun _ => (e_var rfl r4)⟩) ?_) q
  · decide
  · omega
  · intro d hd
    rw [show Ca.cutD [PyData.str t11.k, PyData.int t11.l, PyData.int t11.r] (some 1) none = [PyData.int t11.l, PyData.int t11.r] from cut_drop _ 1] at hd
    rcases List.mem_cons.mp hd with e | hd
    · exact ⟨_, e⟩
    · rcases List.mem_cons.mp hd with e | hd
      · exact ⟨_, e⟩
      · cases hd
  · refine (cq_lst (k := 0) fun d hd => ?_).ok
    obtain ⟨a, _, rfl⟩ := List.mem_map.mp hd
    exact cq_int _
  · exact (cq_lst (k := 0) fun d hd => by cases hd).ok
  · unfold nms10
    congr 2
    refine List.filter_congr fun n _ => ?_
    rw [eqv_nil, List.isEmpty_map]
    have e : ∀ t : At, (List.map Ca.intD (Ca.cutD [PyData.str t.k, PyData.int t.l, PyData.int t.r] (some 1) none)).contains (n : Int) = (((n : Int) == t.l) || ((n : Int) == t.r)) := fun t => by
      rw [show Ca.cutD [PyData.str t.k, PyData.int t.l, PyData.int t.r] (some 1) none = [PyData.int t.l, PyData.int t.r] from cut_drop _ 1]
      show [t.l, t.r].contains (n : Int) = _
      rw [List.contains_cons, List.contains_cons, List.contains_nil, Bool.or_false]
    rw [List.filter_congr fun t _ => e t]
    rw [Bool.eq_iff_iff]
    constructor
    · intro h
      have h2 : as.filter (fun t => ((n : Int) == t.l) || ((n : Int) == t.r)) ≠ [] := by
        intro z
        rw [z] at h
        cases h
      obtain ⟨a, ha⟩ := List.exists_mem_of_ne_nil _ h2
      rw [List.mem_filter] at ha
      exact List.any_eq_true.mpr ⟨a, ha.1, ha.2⟩
    · intro h
      obtain ⟨a, h1, h2⟩ := List.any_eq_true.mp h
      have m : a ∈ as.filter (fun t => ((n : Int) == t.l) || ((n : Int) == t.r)) := List.mem_filter.mpr ⟨h1, h2⟩
      cases e2 : as.filter (fun t => ((n : Int) == t.l) || ((n : Int) == t.r)) with
      | nil =>
        rw [e2] at m
        cases m
      | cons b bs => rfl
end
end Q

set_option maxHeartbeats 4000000
namespace Q
open PySem PySem.Spec PyProof.Rows L2 Ca
section
variable {K : PySem.W.Frag} {σ : L2.St} {F : Hp} {ta tb te t1 t2 : TE} {d : PyData} {ds : List PyData} {E : XK} {C : Addr} {as : List At} {P1 P2 : Hp → V → Prop}
theorem e_cmethQ (hC : EvP ta σ F fun _ v => v = .ref C) (h : EvD te σ F (.str (txt as))) (g : ∀ a ∈ as, Good a) (l1 : 1 ≤ as.length) (l4 : as.length ≤ 4) : EvP (ClX.tCMeth C (spQ (IRead C)) E ta (tCons te tNil)) σ F (QV C as) := fun S H1 f s Q q =>
  hC S H1 f s _ fun v H2 s2 e => ⟨e, h S H2 (f.mono s2) (s.trans (offS_mono s2)) _ fun v H3 s3 r => by
    cases r
    exact ⟨S, QV C as, f.mono (s2.trans s3), ⟨as, rfl, g, l1, l4, rfl⟩, fun v H4 s4 p => q v H4 ((s2.trans s3).trans s4) p⟩⟩
theorem go_parS {S : Addr → Bool} {H : Hp} {D : L2.Ends} {u : TS} {i j : Nat} (f : Fr S H) (h1 : EvP t1 σ (offS S H) P1) (h2 : EvP t2 σ (offS S H) P2) (m1 : ∀ F F' v, Same F F' → P1 F v → P1 F' v)
    (k : ∀ v w H', Same H H' → Fr S H' → P1 (offS S H') v → P2 (offS S H') w → u D ((σ.set i (some v)).set j (some w)) H') : tSeq (tPar i j (tCons t1 (tCons t2 tNil))) u D σ H :=
  h1 S H f (Same.refl _) _ fun v H2 s2 p1 => h2 S H2 (f.mono s2) (offS_mono s2) _ fun w H3 s3 p2 => ⟨v, w, rfl, k v w H3 (s2.trans s3) (f.mono (s2.trans s3)) (m1 _ _ _ (offS_mono s3) p1) p2⟩
end
/-! ### _law_question -/
abbrev s_lq : Stmt := top 63
theorem sc_lq : FnScope ["_law_atoms"] ["_law_atoms"] (defScope s_lq) := ⟨rfl, rfl, rfl, by decide +kernel, rfl, by decide +kernel, by decide +kernel⟩
def ILq (C : Addr) : Hp → List V → (Hp → V → Prop) → Prop := fun F vs P => ∃ v as, vs = [v] ∧ Rp F v (.list (as.map atD)) ∧ (∀ a ∈ as, Good a) ∧ 1 ≤ as.length ∧ as.length ≤ 4 ∧ P = QV C as
section
variable {P : Program} {w : World} {K : PySem.W.Frag} {mg : PySem.Str → Option Value} {base : Heap}
theorem ok_lq {f C pR gR : Addr} {fd : FuncData} (F : FnP K "_law_question" s_lq f fd) (gC : mg "Question" = some (.ref C)) (cr : ClX.CRead K C (.type "type")) (cm : ClX.CMet K C (.type "type") "read" pR gR)
    (GR : FnR P w K mg base CX0 6 gR (spQ (IRead C))) (D1 : Fd P w K mg base "_law_words" 1 ["_law_atoms"] (spR RWords)) : FnOk P w K mg base CX0 7 f fd ["_law_atoms"] (spQ (ILq C)) := by
  obtain ⟨f1, fd1, G1, b1, k1, m1⟩ := D1.ex
  refine F.ok sc_lq (spQ_len (by rintro _ _ _ ⟨v, as, rfl, _⟩; rfl)) (fun cdv A outer s H vs Q E hr h => ?_)
  obtain ⟨S, P0, fr, ⟨v0, as, rfl, r0, g, l1, l4, rfl⟩, q⟩ := h
  refine ⟨_, PSs.nox (pss_one (ps_ret (ClX.pe_cmeth (pe_glob (v := .ref C) rfl gC rfl) cr cm GR hr pass0 (pa_cons (pe_call G1 (hr.mono (by decide)) rfl m1 k1 b1 .nil pass0 (pa_cons (pv 0) pa_nil)) pa_nil)))), ?_⟩
  exact go_ret (P := QV C as) fr (e_cmethQ (fun S H1 f s Q q => q _ H1 (Same.refl _) rfl) (e_call (a_cons (e_var rfl r0) a_nil) ⟨_, rfl, by omega, g, rfl⟩) g l1 l4) q
end
end Q

set_option maxHeartbeats 4000000
namespace Q
open PySem PySem.Spec PyProof.Rows L2 Ca
/-! ### _law_table -/
def argE : Expr → Expr
  | .Call _ (e :: _) _ _ => e
  | e => e
def ILt (C : Addr) : Hp → List V → (Hp → V → Prop) → Prop := fun F vs P => ∃ v ks, vs = [v] ∧ Rp F v (.list (ks.map roD)) ∧ ks.length ≤ 12 ∧ (∀ a ∈ ks, GoodR a) ∧ AreR (ks.map roD) ∧ srtD (ks.map roD) = ks.map roD ∧ P = TV C ks
def parts (a : Ro) : List Int := [a.l, a.r, a.n]
def part (i : Int) : PySem.Str := PySem.Str.ofString " " ++ PySem.Str.ofString (toString i)
theorem row_txt (a : Ro) : (a.k ++ Txt.join "" ((parts a).map part)) ++ PySem.Str.ofString "\n" = rowT a := by
  refine str_same ?_
  have e : TL.tl PySem.Str.empty = [] := rfl
  have e0 : TL.tl (PySem.Str.ofString "") = [] := rfl
  have j : TL.tl (Txt.join "" ((parts a).map part)) = TL.tl (part a.l) ++ (TL.tl (part a.r) ++ TL.tl (part a.n)) := by
    rw [TL.join_eq, TL.tl_join]
    rfl
  rw [TL.tl_append, TL.tl_append, j]
  unfold rowT rowP part
  simp only [List.foldl_cons, List.foldl_nil, TL.tl_append, e, List.nil_append, List.append_assoc]
section
variable {K : PySem.W.Frag} {σ : L2.St} {F : Hp} {ta te : TE} {E : XK} {C : Addr}
theorem e_cmethT {ks : List Ro} (hC : EvP ta σ F fun _ v => v = .ref C) (h : EvD te σ F (.str (txr ks))) (hA : AreR (ks.map roD)) (g : ∀ a ∈ ks, GoodR a) (l12 : ks.length ≤ 12) (hs : srtD (ks.map roD) = ks.map roD) : EvP (ClX.tCMeth C (spQ (ITRead C)) E ta (tCons te tNil)) σ F (TV C ks) := fun S H1 f s Q q =>
  hC S H1 f s _ fun v H2 s2 e => ⟨e, h S H2 (f.mono s2) (s.trans (offS_mono s2)) _ fun v H3 s3 r => by
    cases r
    exact ⟨S, TV C ks, f.mono (s2.trans s3), ⟨ks, rfl, hA, g, hs, rfl⟩, fun v H4 s4 p => q v H4 ((s2.trans s3).trans s4) p⟩⟩
end
theorem part_len {i : Int} (h0 : 0 ≤ i) (h9 : i ≤ 10000) : (part i).length ≤ 6 := by
  have := num5 h0 h9
  have e1 : (PySem.Str.ofString " ").length = 1 := by decide +kernel
  unfold part
  rw [len_app, e1]
  omega
theorem parts_in {a : Ro} (g : GoodR a) : ∀ i ∈ parts a, 0 ≤ i ∧ i ≤ 10000 := fun i hi => by
  have := g.l0; have := g.l9; have := g.r0; have := g.r9; have := g.n1; have := g.n9
  unfold parts at hi
  simp only [List.mem_cons, List.mem_nil_iff, or_false] at hi
  rcases hi with rfl | rfl | rfl <;> omega
theorem row_mid (a : Ro) : ((parts a).map fun i => PyData.str (part i)).map strD = (parts a).map part := rfl
theorem mid_len {a : Ro} (g : GoodR a) : (Txt.join "" ((parts a).map part)).length ≤ 18 := by
  have z := StrLaws.join_length_le "" ((parts a).map part)
  have b1 := part_len (parts_in g a.l (by simp [parts])).1 (parts_in g a.l (by simp [parts])).2
  have b2 := part_len (parts_in g a.r (by simp [parts])).1 (parts_in g a.r (by simp [parts])).2
  have b3 := part_len (parts_in g a.n (by simp [parts])).1 (parts_in g a.n (by simp [parts])).2
  have e1 : (PySem.Str.ofString "").length = 0 := by decide +kernel
  have e2 : (((parts a).map part).map (·.length)).sum = (part a.l).length + ((part a.r).length + ((part a.n).length + 0)) := rfl
  have e3 : ((parts a).map part).length = 3 := rfl
  rw [TL.join_eq]
  simp only [e2, e3, e1] at z
  omega
end Q

set_option maxHeartbeats 400000
namespace Ca
open PySem PySem.Spec PyProof.Rows L2
/-! d.items(), d a dict with tuples as keys -/
theorem frzT2 {X : Cx} {pins : List (Addr × Obj)} {σ : L2.St} {H : Hp} {s : Shared} {d : Addr} {o : Obj} {kvs : List (List Key × V)} (I : Inv X pins σ H s) (h : H d = some (.frz o (.dT kvs))) :
    (d == sysModules) = false ∧ s.heap.get? d = some o ∧ o.ExactDict ∧ ∃ (es : Array DictEntry) (ep : Nat), o.data = .dict es ep ∧ es.size = kvs.length ∧
      ∀ (i : Nat) (k : List Key) (v : V), kvs[i]? = some (k, v) → ∃ (en : DictEntry) (q : Addr), es[i]? = some en ∧ en.key = .ref q ∧ H q = some (.tup (k.map kV)) ∧ RelV v en.val := by
  obtain ⟨hd, z, hs, xs, pr, o', es, ep, ho, hx, hdt, he, _⟩ := I.hok d _ h
  rw [hd] at ho
  cases ho
  refine ⟨hs, hd, hx, es, ep, hdt, ?_, fun i k v e => ?_⟩
  · have l1 : es.size = xs.length := size_of_entries he
    have l2 : kvs.length = xs.length := Paired.length pr
    omega
  · obtain ⟨b, hb, e1, e2, e3⟩ := paired_get pr e
    have q := entry_at he i
    rw [hb] at q
    exact ⟨_, b.2.1, q, rfl, e2, e3⟩
/-- the pairs, each a new tuple -/
def Itit (d : Addr) (o : Obj) (kvs : List (List Key × V)) : It :=
  ⟨fun i H => H d = some (.frz o (.dT kvs)) ∧ i < kvs.length, fun i H x H' => ∃ T q k v, kvs[i]? = some (k, v) ∧ x = .ref T ∧ H T = none ∧ H q = some (.tup (k.map kV)) ∧ H' = upd H T (.tup [.ref q, v]), fun i H => H d = some (.frz o (.dT kvs)) ∧ kvs.length ≤ i⟩
theorem turn_itemsT {P : Program} {w : World} {K : PySem.W.Frag} {d : Addr} {o : Obj} {es : Array DictEntry} {ep : Nat} {kvs : List (List Key × V)} {elts : List Expr} {kk : Nat} {tpos : Pos} (it : Addr) (hod : o.data = .dict es ep) :
    L2.Turn P w K (.Tuple elts kk tpos) (Itit d o kvs) [it] it (fun i h => ∃ ok ov, IsItemIter h it d i kvs.length ep ok ov) where
  mem := by simp
  obj := fun i h st b hb => by
    have e : b = it := by simpa using hb
    subst e
    obtain ⟨ok, ov, e⟩ := st
    exact ⟨_, e, fun v z => nomatch z⟩
  keep := fun i h h' st k => let ⟨ok, ov, e⟩ := st; ⟨ok, ov, k it (by simp) _ e⟩
  item := by
    intro X hP hw hK hc i pins s σ H E I hf st hg
    subst hP hw hK
    obtain ⟨hd, hi⟩ := hg
    obtain ⟨hs, hgd, hx, es', ep', hdt, hsz, ent⟩ := frzT2 I hd
    obtain ⟨rfl, rfl⟩ := dict_ep hod hdt
    obtain ⟨⟨k, v⟩, hkv⟩ : ∃ p, kvs[i]? = some p := ⟨kvs[i], List.getElem?_eq_getElem hi⟩
    obtain ⟨en, q, hen, ek, hq, rv⟩ := ent i k v hkv
    obtain ⟨ok, ov, he⟩ := st
    rw [← hsz] at he
    have hi2 : i < es'.size := by rw [hsz]; exact hi
    have een : es'[i] = en := by
      rw [Array.getElem?_eq_getElem hi2] at hen
      exact Option.some.inj hen
    have hlt : it < s.heap.objs.size := Heap.lt_size he
    refine DT.nextI he ⟨_, hgd, hx, hdt⟩ hi2 fun h' ho hT hz hk => ?_
    rw [een] at ho hT
    rw [ek] at ho hT
    refine ⟨_, rfl, wpAny_letOwnedTupleGo_items (s := { s with heap := h' }) ho fun h'' he' sb => ?_⟩
    have hT2 : h''.get? s.heap.objs.size = some { cls := .type "tuple", data := .seq #[.ref q, en.val] } := (sb.2 _ (Nat.ne_of_gt hlt)).trans hT
    have new : ObjOk X.prog X.w (upd H s.heap.objs.size (.tup [.ref q, v])) h'' s.heap.objs.size (.tup [.ref q, v]) :=
      ⟨by show 2 ≤ sizeLine; decide, [.ref q, en.val], .cons rfl (.cons rv .nil), ⟨_, hT2, rfl, _, rfl⟩⟩
    have I1 : Inv X pins σ (upd H s.heap.objs.size (.tup [.ref q, v])) { s with heap := h'' } :=
      I.turnedNew (t' := s.toks) (ch := [it]) (fun b ob hb e => (sb.2 b (by simpa using hb)).trans (hk b ob (by simpa using hb) e)) hf (Nat.le_refl _) new
    refine ⟨.ref s.heap.objs.size, _, I1, rfl, ⟨_, q, k, v, hkv, rfl, I.hok.fresh (Nat.le_refl _), hq, rfl⟩, ⟨.ref q, en.val, ?_⟩, fun b hb => ?_⟩
    · rw [← hsz]; exact he'
    · have e : b = it := by simpa using hb
      rw [e, upd_ne (Nat.ne_of_lt hlt)]
      exact (hf it (by simp)).1
  done := by
    intro X hP hw hK hc i pins s σ H E I hf st hg
    subst hP hw hK
    obtain ⟨hd, hi⟩ := hg
    obtain ⟨f0, f1, f2, f3, f4, f5⟩ := hf it (by simp)
    obtain ⟨hs, hgd, hx, es', ep', hdt, hsz, ent⟩ := frzT2 I hd
    obtain ⟨rfl, rfl⟩ := dict_ep hod hdt
    obtain ⟨ok, ov, he⟩ := st
    rw [← hsz] at he
    exact DT.endI (I.ok.hd hc) he ⟨_, hgd, hx, hdt⟩ (by rw [hsz]; exact hi) fun h' eb => ⟨rfl, I.turned (t' := s.toks) (fun b ob hb e => eb b ob hb e) f0 f1 f3 f4 f5⟩
  self := fun A i s Q E st h => let ⟨_, _, e⟩ := st; PySem.W.kcp_self e h
def iItemsT (td : TE) : TI := fun σ H R => td σ H fun x H1 => ∃ d o kvs, x = .ref d ∧ H1 d = some (.frz o (.dT kvs)) ∧ R (Itit d o kvs) H1
theorem pi_itemsT {X : Cx} {e : Expr} {td : TE} {apos cpos : Pos} {elts : List Expr} {kk : Nat} {tpos : Pos} (he : PE X e td) (hbase : attributeBase e "items" X.env (eval e X.env) = eval e X.env := by rfl) (hline : (apos.endLine == cpos.line) = true := by rfl) :
    PI X (.Tuple elts kk tpos) (.Call (.Attribute e "items" apos) [] [] cpos) (iItemsT td) := by
  refine ⟨fun pins s σ H R I h => ?_⟩
  refine wpAny_Call_method (T := "dict") (id := "dict.items") hbase rfl hline PySem.F.plainAttrs_dict PySem.F.slot_dict_items PySem.F.type_dict_items (thn (he.run pins s σ H _ I h) fun u s1 ⟨x, H1, I1, rx, d, o, kvs, ex, hd, q⟩ => ?_)
  subst ex
  obtain rfl : u = Value.ref d := rx
  obtain ⟨hs, hgd, hx, es, ep, hdt, hsz, ent⟩ := frzT2 I1 hd
  have raw : DT.Raw s1.heap d es ep := ⟨_, hgd, hx, hdt⟩
  refine ⟨raw.typeIs, fun a z => by cases z; exact ⟨o, hgd, hx.2.1⟩, ?_⟩
  have I2 : Inv X pins σ H1 { s1 with heap := s1.heap.push { cls := .type "dict_items", data := .fields #[.ref d] } } := I1.kept (t' := s1.toks) fun b ob q => Heap.get?_push_of_some _ q
  have fin : wpAny (model X.prog X.w) X.A (pyIter (.ref s1.heap.objs.size)) (PIE X pins σ (.Tuple elts kk tpos) R) X.xe { s1 with heap := s1.heap.push { cls := .type "dict_items", data := .fields #[.ref d] } } := by
    refine DT.iterI (d := d) ⟨_, Heap.get?_push_size _ rfl, rfl, rfl⟩ (raw.push _) (pi_one (tk := s1.toks) I2 _ (turn_itemsT _ hdt) ⟨.none, .none, ?_⟩ q)
    rw [← hsz]
    exact Heap.get?_push_size _ rfl
  show wpAny _ _ (callWith cpos (.builtin "dict.items") [.ref d] [] []) _ X.xe s1
  exact method_meetsIn PySem.F.slot_dict_items PySem.F.entry_dict_items rfl (PySem.evalArgs_none ⟨rfl, raw.typeIs, PySem.F.args_dict_items_1 _, _, DT.meetsItems (es := es) (ep := ep) hs, raw, fin⟩)
end Ca

set_option maxHeartbeats 4000000
namespace Q
open PySem PySem.Spec PyProof.Rows L2 Ca
/-! ### going over the items of a dict of rows -/
def kyD (a : Ro) : PyData := .tuple [.str a.k, .int a.l, .int a.r]
def kvO (a : Ro) : List Key × V := (roK a, .int a.n)
def itD (a : Ro) : PyData := .tuple [kyD a, .int a.n]
theorem off_tup {S : Addr → Bool} {H : Hp} {q : Addr} {xs : List V} (f : Fr S H) (h : H q = some (.tup xs)) : offS S H q = some (.tup xs) := by
  unfold offS
  split
  · rename_i hq
    obtain ⟨o, e, m⟩ := f q hq
    rw [h] at e
    cases e
    exact absurd m (by first | exact fun z => z | (intro z; cases z))
  · exact h
theorem it_itemsT {σ : L2.St} {F : Hp} {td : TE} {d : Addr} {o : Obj} {ks : List Ro} (h : EvP td σ F fun _ v => v = .ref d) (hd : F d = some (.frz o (.dT (ks.map kvO)))) : ItP (iItemsT td) σ F (ks.map itD) := fun S H1 f s R r =>
  h S H1 f s _ fun v H2 s2 e => by
    have hd2 := offS_same _ _ ((s.trans (offS_mono (S := S) s2)) _ _ hd)
    refine ⟨d, o, _, e, hd2, r _ H2 s2 fun S' H' i f' s' => ?_⟩
    have hF : offS S H2 d = some (.frz o (.dT (ks.map kvO))) := (s.trans (offS_mono (S := S) s2)) _ _ hd
    have hd3 := offS_same _ _ (s' _ _ hF)
    refine ⟨fun hi => ?_, fun hi => ⟨hd3, by rw [List.length_map] at hi ⊢; exact hi⟩⟩
    rw [List.length_map] at hi
    refine ⟨⟨hd3, by rw [List.length_map]; exact hi⟩, fun x H'' y => ?_⟩
    obtain ⟨T, q, k, v, hk, rfl, hT, hq, rfl⟩ := y
    refine ⟨same_new hT, itD ks[i], by rw [List.getElem?_map, List.getElem?_eq_getElem hi]; rfl, ?_⟩
    rw [List.getElem?_map, List.getElem?_eq_getElem hi] at hk
    have e2 : kvO ks[i] = (k, v) := Option.some.inj hk
    obtain ⟨rfl, rfl⟩ : roK ks[i] = k ∧ V.int ks[i].n = v := ⟨congrArg Prod.fst e2, congrArg Prod.snd e2⟩
    have q1 := off_tup (f'.mono (same_new (o := .tup [.ref q, .int ks[i].n]) hT)) (same_new hT _ _ hq)
    exact .tup (offS_new f' hT) (.cons (.tup q1 (.cons (.str _) (.cons (.int _) (.cons (.int _) .nil)))) (.cons (.int _) .nil))
end Q

set_option maxHeartbeats 4000000
namespace Ca
open PySem PySem.Spec PyProof.Rows L2
/-- all but what is locked is kept -/
def SameP (H H' : Hp) : Prop := ∀ b o, (∀ od u, o ≠ .frz od u) → H b = some o → H' b = some o
section
variable {H H' : Hp}
mutual
theorem Rp.keepP (e : SameP H H') : ∀ {d : PyData} {v : V}, Rp H v d → Rp H' v d
  | _, _, .non => .non
  | _, _, .bl b => .bl b
  | _, _, .int i => .int i
  | _, _, .str x => .str x
  | _, _, .lst h r => .lst (e _ _ (fun _ _ z => by cases z) h) (RpA.keepP e r)
  | _, _, .tup h r => .tup (e _ _ (fun _ _ z => by cases z) h) (RpA.keepP e r)
  | _, _, .dic h => .dic (e _ _ (fun _ _ z => by cases z) h)
theorem RpA.keepP (e : SameP H H') : ∀ {ds : List PyData} {vs : List V}, RpA H vs ds → RpA H' vs ds
  | _, _, .nil => .nil
  | _, _, .cons h r => .cons (Rp.keepP e h) (RpA.keepP e r)
end
end
def delS (S : Addr → Bool) (d : Addr) : Addr → Bool := fun a => if a = d then false else S a
/-- an expression while the dict at d is locked -/
theorem go_lockD {S : Addr → Bool} {H : Hp} {σ : L2.St} {te : TE} {d : Addr} {kvs : List (List Key × V)} {dd : PyData} {Q : VK} (f : Fr S H) (hS : S d = true) (hd : H d = some (.dT kvs))
    (h : ∀ od F, F d = some (.frz od (.dT kvs)) → Same (offS S H) F → EvD te σ F dd) (q : ∀ v H', Same H H' → Rp (offS S H') v dd → Q v H') : tLockE te σ H Q := by
  refine ⟨d, .dT kvs, hd, trivial, fun od => ?_⟩
  have e1 : offS (delS S d) (upd H d (.frz od (.dT kvs))) d = some (.frz od (.dT kvs)) := by
    unfold offS delS
    rw [if_neg (by simp)]
    exact upd_same
  have s1 : Same (offS S H) (offS (delS S d) (upd H d (.frz od (.dT kvs)))) := fun b o e => by
    unfold offS at e ⊢
    split at e
    · cases e
    · rename_i hb
      have ne : b ≠ d := fun z => hb (by rw [z]; exact hS)
      unfold delS
      rw [if_neg ne, if_neg hb, upd_ne ne]
      exact e
  have f1 : Fr (delS S d) (upd H d (.frz od (.dT kvs))) := fun a ha => by
    unfold delS at ha
    split at ha
    · cases ha
    · rename_i ne
      obtain ⟨o, e, m⟩ := f a ha
      exact ⟨o, by rw [upd_ne ne]; exact e, m⟩
  refine h od _ e1 s1 (delS S d) _ f1 (Same.refl _) _ fun v H2 s2 r => ⟨s2 _ _ upd_same, q v _ (fun b o e => ?_) (Rp.keepP (fun b o ho e => ?_) r)⟩
  · by_cases z : b = d
    · subst z
      rw [hd] at e
      cases e
      exact upd_same
    · rw [upd_ne z]
      exact s2 _ _ (by rw [upd_ne z]; exact e)
  · by_cases z : b = d
    · subst z
      have e2 := s2 _ _ (upd_same (H := H) (o := .frz od (.dT kvs)))
      have e3 := offS_same _ _ e
      rw [e2] at e3
      cases e3
      exact absurd rfl (ho od _)
    · unfold offS delS at e
      rw [if_neg z] at e
      unfold offS
      split at e
      · cases e
      · rename_i hb
        rw [if_neg hb, upd_ne z]
        exact e
end Ca

set_option maxHeartbeats 4000000
namespace Q
open PySem PySem.Spec PyProof.Rows L2 Ca
/-! ### _law_rows -/
def KindP : Hp → V → Prop := fun _ v => ∃ k, v = .str k ∧ kindOk k = true
theorem mon_kind : Mon KindP := fun _ _ _ _ h => h
section
variable {s : Addr} {σ : L2.St} {F : Hp} {tl : TE} {E : XK}
theorem k_chS {i : Nat} {x : PySem.Str} (hi : σ[i]? = some (some (.ref s))) (h0 : 0 < x.length) (h1 : x.length ≤ 1000) (hk : ∀ c ∈ x.cps.toList, kindOk ⟨#[c]⟩ = true) : EvK s (tCall spChS [] E (tCons (tVar i) (tCons (tC (.str x)) tNil))) σ F KindP := fun S H1 f hS hc sm Q q =>
  ⟨_, hi, s, x, rfl, hc, h0, h1, fun c H3 hcm st => q _ H3 st.kp st.src ⟨_, rfl, hk c hcm⟩⟩
theorem k_chT {i : Nat} {ns : List Int} {lo hi2 : Int} (hi : σ[i]? = some (some (.ref s))) (hl : EvD tl σ F (tiD ns)) (h0 : 0 < ns.length) (h1 : ns.length ≤ 1000) (hn : ∀ n ∈ ns, lo ≤ n ∧ n ≤ hi2) : EvK s (tCall spChT [] E (tCons (tVar i) (tCons tl tNil))) σ F (IntP lo hi2) := fun S H1 f hS hc sm Q q =>
  ⟨_, hi, hl S H1 f sm _ fun v H2 s2 r => by
    have : ∃ t, v = .ref t ∧ offS S H2 t = some (.tup (ns.map V.int)) := by
      cases r with
      | @tup a xs _ ha rx =>
        refine ⟨a, rfl, ?_⟩
        have e : xs = ns.map V.int := by
          clear ha hl h0 h1 hn
          induction ns generalizing xs with
          | nil => cases rx; rfl
          | cons n ns ih =>
            cases rx with
            | cons h r =>
              cases h
              rw [ih r]
              rfl
        rw [← e]
        exact ha
    obtain ⟨t, rfl, ht⟩ := this
    exact ⟨s, t, ns, rfl, src_same hc s2, offS_same _ _ ht, h0, h1, fun n H3 hm st => q _ H3 ((Kp.of s2).trans st.kp) st.src ⟨n, rfl, (hn n hm).1, (hn n hm).2⟩⟩⟩
end
theorem put_rows {Pr : Ro → Prop} {ks : List Ro} (a : Ro) (ga : Pr a) (g : ∀ b ∈ ks, Pr b) (nd : (ks.map roK).Nodup) : ∃ ls : List Ro, putK (ks.map kvO) (roK a) (.int a.n) = ls.map kvO ∧ ls.length ≤ ks.length + 1 ∧ (∀ b ∈ ls, Pr b) ∧ (ls.map roK).Nodup := by
  unfold putK
  split
  · refine ⟨ks.map fun b => if roK b = roK a then a else b, ?_, by rw [List.length_map]; omega, fun b hb => ?_, ?_⟩
    · rw [List.map_map, List.map_map]
      apply List.map_congr_left
      intro b _
      show (if (kvO b).1 = roK a then ((kvO b).1, V.int a.n) else kvO b) = kvO (if roK b = roK a then a else b)
      by_cases e : roK b = roK a
      · rw [if_pos e, if_pos (show (kvO b).1 = roK a from e)]
        show (roK b, V.int a.n) = (roK a, V.int a.n)
        rw [e]
      · rw [if_neg e, if_neg (show ¬ (kvO b).1 = roK a from e)]
    · obtain ⟨c, hc, rfl⟩ := List.mem_map.mp hb
      by_cases e : roK c = roK a
      · rw [if_pos e]
        exact ga
      · rw [if_neg e]
        exact g c hc
    · rw [List.map_map]
      have : (ks.map (roK ∘ fun b => if roK b = roK a then a else b)) = ks.map roK := by
        apply List.map_congr_left
        intro b _
        show roK (if roK b = roK a then a else b) = roK b
        by_cases e : roK b = roK a
        · rw [if_pos e, e]
        · rw [if_neg e]
      rw [this]
      exact nd
  · rename_i h
    refine ⟨ks ++ [a], by rw [List.map_append]; rfl, by rw [List.length_append]; simp, fun b hb => ?_, ?_⟩
    · rcases List.mem_append.mp hb with z | z
      · exact g b z
      · rw [List.mem_singleton.mp z]
        exact ga
    · rw [List.map_append, List.nodup_append]
      refine ⟨nd, by simp, fun x hx y hy e => h ?_⟩
      obtain ⟨b, hb, rfl⟩ := List.mem_map.mp hx
      rw [List.map_cons, List.map_nil, List.mem_singleton] at hy
      exact List.any_eq_true.mpr ⟨kvO b, List.mem_map.mpr ⟨b, hb, rfl⟩, by simp [kvO, e, hy]⟩
end Q

set_option maxHeartbeats 4000000
namespace Q
open PySem PySem.Spec PyProof.Rows L2 Ca
section
variable {K : PySem.W.Frag} {s : Addr} {σ : L2.St} {F : Hp} {ta tb te : TE} {P : Hp → V → Prop}
theorem k_pick {n : Nat} (ha : EvK s ta σ F (LsP n P)) (mo : Mon P) (hb : EvK s tb σ F (IntP 0 ((n : Int) - 1))) : EvK s (tOp (rIxL K) ta tb) σ F P := fun S H1 f hS hc sm Q q =>
  ha S H1 f hS hc sm _ fun v H2 k2 c2 ⟨a, xs, e, hx, hn, hp⟩ => hb S H2 (k2.fr c2 f) hS c2 (sm.trans (k2.off hS)) _ fun u H3 k3 c3 ⟨z, e2, z0, z1⟩ => by
    subst e e2
    obtain ⟨j, rfl⟩ := Int.eq_ofNat_of_zero_le z0
    have hj : j < xs.length := by omega
    exact ⟨a, xs, _, xs[j], rfl, rfl, .inl (.inl (offS_same _ _ (k3.off hS _ _ hx))), L2.at_of rfl (List.getElem?_eq_getElem hj), q _ H3 (k2.trans k3) c3 (mo _ _ _ (k3.off hS) (hp _ (List.getElem_mem hj)))⟩
variable {S : Addr → Bool} {H : Hp} {D : L2.Ends} {t u : TS} {g : TG}
theorem go_forRK {m : Nat} (f : Fr S H) (hS : S s = true) (hc : Src H s) (h : EvK s te σ (offS S H) (IntP 0 (m : Int))) (hz : m < 2 ^ 61) (k : ∀ n H1, n ≤ m → Kp s H H1 → Src H1 s → Fr S H1 → ∃ Pv : Nat → L2.St → Hp → Prop, Pv 0 σ H1 ∧
    (∀ i σ' H', i < n → Pv i σ' H' → g (.int (i : Int)) σ' H' fun σ2 H2 => t { D with nx := Pv (i + 1), ct := Pv (i + 1), bk := u D } σ2 H2) ∧ (∀ σ' H', Pv n σ' H' → u D σ' H')) : tSeq (tFor (iRng1 (tCons te tNil)) g t) u D σ H :=
  h S H f hS hc (Same.refl _) _ fun v H1 k1 c1 ⟨z, e, z0, z1⟩ => by
    subst e
    obtain ⟨n, rfl⟩ := Int.eq_ofNat_of_zero_le z0
    obtain ⟨Pv, p0, ps, pd⟩ := k n H1 (by omega) k1 c1 (k1.fr c1 f)
    have en : ((n : Nat) : Int).toNat = n := by omega
    refine ⟨_, rfl, by omega, by omega, for_range (lo := 0) (n := ((n : Nat) : Int).toNat) Pv p0 (fun i σ' H' hi p => ?_) fun σ' H' p => pd σ' H' ?_⟩
    · have e0 : (0 : Int) + (i : Int) = (i : Int) := by omega
      rw [e0]
      exact ps i σ' H' (by omega) p
    · rw [en] at p
      exact p
end
structure GoodU (u : Int) (a : Ro) : Prop where
  g : GoodR a
  l : a.l ≤ u
  r : a.r ≤ u
def spRows : Sp := fun vs H Q _ => ∃ (S : Addr → Bool) (s : Addr) (m : Nat) (vt : V) (ns : List Int) (u : Int), vs = [.ref s, .int m, vt] ∧ Fr S H ∧ S s = true ∧ Src H s ∧ m ≤ 12 ∧ Rp (offS S H) vt (tiD ns) ∧ 0 < ns.length ∧ ns.length ≤ 1000 ∧ u ≤ 99 ∧ (∀ n ∈ ns, 0 ≤ n ∧ n ≤ u) ∧
  ∀ (x : V) (rs : List Ro) (H' : Hp), Kp s H H' → Src H' s → Rp (offS S H') x (.list (srtD (rs.map roD))) → rs.length ≤ m → (∀ a ∈ rs, GoodU u a) → (rs.map roK).Nodup → Q x H'
structure RInv (u : Int) (s fo : Addr) (H0 : Hp) (i : Nat) (H : Hp) : Prop where
  kp : Kp s H0 H
  src : Src H s
  rows : ∃ ks : List Ro, H fo = some (.dT (ks.map kvO)) ∧ ks.length ≤ i ∧ (∀ a ∈ ks, GoodU u a) ∧ (ks.map roK).Nodup
theorem addS_s {S : Addr → Bool} {s fo : Addr} (h : S s = true) : addS S fo s = true := by
  unfold addS
  rw [h]
  rfl
theorem RInv.step {u : Int} {s fo : Addr} {H0 H H' : Hp} {i : Nat} (h : RInv u s fo H0 i H) (fs : fo ≠ s) (k : Kp s H H') (c : Src H' s) : RInv u s fo H0 i H' := by
  obtain ⟨ks, h1, h2⟩ := h.rows
  exact ⟨h.kp.trans k, c, ks, k _ _ fs h1, h2⟩
end Q

set_option maxHeartbeats 400000
namespace Q
open PySem PySem.Spec PyProof.Rows L2 Ca
/-! ### tests that draw, calls that draw, comprehensions over what is drawn -/
def EvBK (s : Addr) (tt : L2.TT) (σ : L2.St) (F : Hp) (b : Bool) : Prop := ∀ (S : Addr → Bool) (H1 : Hp), Fr S H1 → S s = true → Src H1 s → Same F (offS S H1) → ∀ Q : Bool → Hp → Prop, (∀ H2, Kp s H1 H2 → Src H2 s → Q b H2) → tt σ H1 Q
section
variable {K : PySem.W.Frag} {s : Addr} {σ : L2.St} {F : Hp} {ta tb te tl : TE} {tas : TA} {tt tu : L2.TT} {P R : Hp → V → Prop} {Ps : List (Hp → V → Prop)} {E : XK} {I : Hp → List V → (Hp → V → Prop) → Prop} {a b : Bool}
theorem bk_of (h : EvB tt σ F b) : EvBK s tt σ F b := fun S H1 f hS hc sm Q q => h S H1 f sm Q fun H2 s2 => q H2 (.of s2) (src_same hc s2)
theorem bk_val (h : EvK s te σ F fun H v => Rp H v (.bool b)) : EvBK s (tB te) σ F b := fun S H1 f hS hc sm Q q => h S H1 f hS hc sm _ fun v H2 k2 c2 r => by
  cases r
  exact ⟨b, rfl, q H2 k2 c2⟩
theorem bk_not (h : EvBK s tt σ F b) : EvBK s (tNot tt) σ F (!b) := fun S H1 f hS hc sm Q q => h S H1 f hS hc sm _ fun H2 k2 c2 => q H2 k2 c2
theorem bk_or (h : EvBK s tt σ F a) (h2 : a = false → EvBK s tu σ F b) : EvBK s (tOr tt tu) σ F (a || b) := fun S H1 f hS hc sm Q q => h S H1 f hS hc sm _ fun H2 k2 c2 => by
  cases a with
  | false => exact h2 rfl S H2 (k2.fr c2 f) hS c2 (sm.trans (k2.off hS)) _ fun H3 k3 c3 => q H3 (k2.trans k3) c3
  | true => exact q H2 k2 c2
theorem k_callQ (h : EvKA s tas σ F Ps) (hi : ∀ F vs, PsA F Ps vs → I F vs P) : EvK s (tCall (spQ I) [] E tas) σ F P := fun S H1 f hS hc sm Q q =>
  h S H1 f hS hc sm _ fun vs H2 k2 c2 r => ⟨S, P, k2.fr c2 f, by rw [List.append_nil]; exact hi _ _ r, fun v H3 s3 p => q v H3 (k2.trans (.of s3)) (src_same c2 s3) p⟩
theorem k_lcOf {g : TG} {vs : List Nat} (h : EvK s tl σ F P) (k : ∀ F' v, Same F F' → P F' v → EvP (tLc (iList K (tC v)) g tt te vs) σ F' R) : EvK s (tLc (iList K tl) g tt te vs) σ F R := fun S H1 f hS hc sm Q q =>
  h S H1 f hS hc sm _ fun v H2 k2 c2 p => k (offS S H2) v (sm.trans (k2.off hS)) p S H2 (k2.fr c2 f) (Same.refl _) Q fun w H3 s3 r => q w H3 (k2.trans (.of s3)) (src_same c2 s3) r
theorem e_tC {v : V} {d : PyData} (r : Rp F v d) : EvD (tC v) σ F d := fun S H1 f sm Q q => q v H1 (Same.refl _) (r.mono sm)
theorem e_min2 {i j : Int} (ha : EvD ta σ F (.int i)) (hb : EvD tb σ F (.int j)) : EvD (tCB (fun xs H Q => ∃ i j, xs = [.int i, .int j] ∧ Q (.int (if j < i then j else i)) H) (tCons ta (tCons tb tNil))) σ F (.int (min i j)) := e_cb (a_cons ha (a_cons hb a_nil)) fun S H vs f r Q q => by
  obtain ⟨v, w, rfl, r1, r2⟩ := rpa2 r
  cases r1
  cases r2
  refine ⟨i, j, rfl, q _ H (Same.refl _) ?_⟩
  have e : (if j < i then j else i) = min i j := by
    rw [Int.min_def]
    split <;> split <;> omega
  rw [e]
  exact .int _
variable {S : Addr → Bool} {H : Hp} {D : L2.Ends} {t u t1 t2 : TS} {g : TG}
theorem go_ifKS (f : Fr S H) (hS : S s = true) (hc : Src H s) (h : EvBK s tt σ (offS S H) false) (k : ∀ H', Kp s H H' → Src H' s → Fr S H' → t2 { D with nx := u D } σ H') : tSeq (tIfS tt t1 t2) u D σ H :=
  h S H f hS hc (Same.refl _) _ fun H' k' c' => k H' k' c' (k'.fr c' f)
/-- two new lists -/
theorem go_par2N {i j : Nat} (k : ∀ p q H', H p = none → H q = none → p ≠ q → Same H H' → H' p = some (.lst []) → H' q = some (.lst []) → u D ((σ.set i (some (.ref p))).set j (some (.ref q))) H') : tSeq (tPar i j (tCons (tLst tNil) (tCons (tLst tNil) tNil))) u D σ H :=
  ⟨by show 0 ≤ sizeLine; decide, fun p hp => ⟨by show 0 ≤ sizeLine; decide, fun q hq => ⟨_, _, rfl, by
    have ne : p ≠ q := fun e => by rw [← e, upd_same] at hq; cases hq
    have hq0 : H q = none := by rw [upd_ne ne.symm] at hq; exact hq
    exact k p q _ hp hq0 ne ((same_new hp).trans (same_new hq)) (by rw [upd_ne ne]; exact upd_same) upd_same⟩⟩⟩
theorem go_forRL {lo m : Nat} (f : Fr S H) (hS : S s = true) (hc : Src H s) (h : EvK s te σ (offS S H) (IntP (lo : Int) (m : Int))) (hz : m < 2 ^ 61) (k : ∀ n H1, lo ≤ n → n ≤ m → Kp s H H1 → Src H1 s → Fr S H1 → ∃ Pv : Nat → L2.St → Hp → Prop, Pv 0 σ H1 ∧
    (∀ i σ' H', i < n → Pv i σ' H' → g (.int (i : Int)) σ' H' fun σ2 H2 => t { D with nx := Pv (i + 1), ct := Pv (i + 1), bk := D.nx } σ2 H2) ∧ (∀ σ' H', Pv n σ' H' → D.nx σ' H')) : tFor (iRng1 (tCons te tNil)) g t D σ H :=
  h S H f hS hc (Same.refl _) _ fun v H1 k1 c1 ⟨z, e, z0, z1⟩ => by
    subst e
    obtain ⟨n, rfl⟩ := Int.eq_ofNat_of_zero_le (show 0 ≤ z by omega)
    obtain ⟨Pv, p0, ps, pd⟩ := k n H1 (by omega) (by omega) k1 c1 (k1.fr c1 f)
    have en : ((n : Nat) : Int).toNat = n := by omega
    refine ⟨_, rfl, by omega, by omega, for_range (lo := 0) (n := ((n : Nat) : Int).toNat) Pv p0 (fun i σ' H' hi p => ?_) fun σ' H' p => pd σ' H' ?_⟩
    · have e0 : (0 : Int) + (i : Int) = (i : Int) := by omega
      rw [e0]
      exact ps i σ' H' (by omega) p
    · rw [en] at p
      exact p
theorem go_appK {p : Addr} {i : Nat} {xs : List V} (f : Fr S H) (hS : S s = true) (hc : Src H s) (ne : p ≠ s) (hv : σ[i]? = some (some (.ref p))) (hp : H p = some (.lst xs)) (h : EvK s te σ (offS S H) P) (hz : xs.length ≤ 900)
    (k : ∀ y H', Kp s H H' → Src H' s → H' p = some (.lst xs) → P (offS S H') y → D.nx σ (upd H' p (.lst (xs ++ [y])))) : tDrop (tBM K "list" rAppend (tVar i) (tCons te tNil)) D σ H :=
  ⟨_, hv, .inl ⟨rfl, _, .inl (.inl hp)⟩, h S H f hS hc (Same.refl _) _ fun v H' k' c r => ⟨p, xs, v, rfl, rfl, k' _ _ ne hp, small1000 (by omega), k v H' k' c (k' _ _ ne hp) r⟩⟩
end
theorem offS_updS {S : Addr → Bool} {H : Hp} {p : Addr} {o : L2.HO} (h : S p = true) : Same (offS S H) (offS S (upd H p o)) := fun b u e => by
  unfold offS at e ⊢
  split at e
  · cases e
  · rename_i hb
    rw [if_neg hb, upd_ne fun z => hb (by rw [z]; exact h)]
    exact e
/-- a tuple of values -/
def TisU (u : Int) : Hp → V → Prop := fun F v => ∃ ns : List Int, Rp F v (tiD ns) ∧ 0 < ns.length ∧ ns.length ≤ 1000 ∧ ∀ n ∈ ns, 0 ≤ n ∧ n ≤ u
theorem mon_tisU {u : Int} : Mon (TisU u) := fun _ _ _ s ⟨ns, h, r⟩ => ⟨ns, h.mono s, r⟩
theorem k_tisU {s : Addr} {σ : L2.St} {F : Hp} {te : TE} {u : Int} (ns : List Int) (h : EvD te σ F (tiD ns)) (h0 : 0 < ns.length) (h1 : ns.length ≤ 1000) (h2 : ns.all (fun n => decide (0 ≤ n ∧ n ≤ u)) = true) : EvK s te σ F (TisU u) := k_of (h.weak fun H v r => ⟨ns, r, h0, h1, fun n hn => of_decide_eq_true (List.all_eq_true.mp h2 n hn)⟩)
/-- rows drawn -/
def RowsU (m : Nat) (u : Int) : Hp → V → Prop := fun H v => ∃ rs : List Ro, Rp H v (.list (srtD (rs.map roD))) ∧ rs.length ≤ m ∧ (∀ a ∈ rs, GoodU u a) ∧ (rs.map roK).Nodup
theorem k_rowsU {s : Addr} {σ : L2.St} {F : Hp} {te tv : TE} {E : XK} {i m : Nat} {ns : List Int} {u : Int} (hi : σ[i]? = some (some (.ref s))) (hm : EvD te σ F (.int (m : Int))) (hv : EvD tv σ F (tiD ns)) (m12 : m ≤ 12) (l0 : 0 < ns.length) (l1 : ns.length ≤ 1000) (u9 : u ≤ 99) (hn : ∀ n ∈ ns, 0 ≤ n ∧ n ≤ u) :
    EvK s (tCall spRows [] E (tCons (tVar i) (tCons te (tCons tv tNil)))) σ F (RowsU m u) := fun S H1 f hS hc sm Q q =>
  ⟨_, hi, hm S H1 f sm _ fun v H2 s2 r2 => hv S H2 (f.mono s2) (sm.trans (offS_mono s2)) _ fun w H3 s3 r3 => by
    cases r2
    exact ⟨S, s, m, w, ns, u, rfl, f.mono (s2.trans s3), hS, src_same hc (s2.trans s3), m12, r3, l0, l1, u9, hn, fun x rs H4 k4 c4 r4 lr gr nd => q x H4 ((Kp.of (s2.trans s3)).trans k4) c4 ⟨rs, r4, lr, gr, nd⟩⟩⟩
end Q

set_option maxHeartbeats 1000000
namespace Ca
open PySem PySem.Spec PyProof.Rows L2
/-! ### lists of what is no data -/
abbrev Each {α : Type} (Pa : α → Hp → V → Prop) (H : Hp) (xs : List V) (as : List α) : Prop := xs.length = as.length ∧ ∀ (i : Nat) x a, xs[i]? = some x → as[i]? = some a → Pa a H x
section
variable {α : Type} {enc : α → PyData} {as : List α} {Pa : α → Hp → V → Prop} {K : PySem.W.Frag} {σ : L2.St} {F : Hp} {tl te : TE} {tt : TT} {g : TG} {vs : List Nat}
theorem e_lcP (mono : ∀ a F F' v, Same F F' → Pa a F v → Pa a F' v) (hl : EvD tl σ F (.list (as.map enc))) (hz : as.length ≤ 1000)
    (ht : ∀ a ∈ as, ∀ x F1, Same F F1 → Rp F1 x (enc a) → GtP g x (wipe σ vs) F1 fun σ2 => wipe σ2 vs = wipe σ vs ∧ EvB tt σ2 F1 true ∧ EvP te σ2 F1 (Pa a)) :
    EvP (tLc (iList K tl) g tt te vs) σ F fun H v => ∃ p xs, v = .ref p ∧ H p = some (.lst xs) ∧ Each Pa H xs as := fun S H1 f s Q q => hl S H1 f s _ fun v H2 s2 r => by
  obtain ⟨a, xs, rfl, h1, r1⟩ := rp_lst r
  refine ⟨a, rfl, ⟨xs, .inl (.inl h1)⟩, fun D hD => ?_⟩
  have f2 := f.mono s2
  have sF := s.trans (offS_mono (S := S) s2)
  have hDo : offS S H2 D = none := by
    unfold offS
    split
    · rfl
    · exact hD
  refine lc_list (fun i H' => Same H2 H' ∧ ∃ acc, H' D = some (.lst acc) ∧ acc.length = i ∧ ∀ (j : Nat) x a, acc[j]? = some x → as[j]? = some a → Pa a (offS (addS S D) H') x) ⟨same_new hD, [], upd_same, rfl, fun j x a e => by simp at e⟩ (fun i H' _ p => .inl (.inl (p.1 _ _ h1))) (fun i x H' hx inv => ?_) fun H' inv => ?_
  · obtain ⟨t, hi, rx⟩ := l_get r1 hx
    obtain ⟨s3, acc, hacc, la, each⟩ := inv
    have f1 : Fr (addS S D) H' := (f2.mono s3).add hacc trivial
    have s1 : Same (offS S H2) (offS (addS S D) H') := addS_new hDo (offS_mono s3)
    have li : i < as.length := (List.getElem?_eq_some_iff.mp hi).1
    refine ht t (List.mem_of_getElem? hi) x (offS (addS S D) H') (sF.trans s1) (rx.mono s1) (addS S D) H' f1 (Same.refl _) _ fun σ2 ⟨w, hb, he⟩ => ⟨w, hb (addS S D) H' f1 (Same.refl _) _ fun H3 s4 => ?_⟩
    refine he (addS S D) H3 (f1.mono s4) (offS_mono s4) _ fun y H4 s5 r4 => ⟨acc, (s4.trans s5) _ _ hacc, by rw [la]; exact small9 (by omega), same_mut (s3.trans (s4.trans s5)) hD, _, upd_same, by rw [List.length_append, la]; rfl, fun j z b ez eb => ?_⟩
    by_cases lj : j < acc.length
    · rw [List.getElem?_append_left lj] at ez
      exact mono _ _ _ _ addS_upd (mono _ _ _ _ (offS_mono (s4.trans s5)) (each j z b ez eb))
    · have ej : j = acc.length := by
        have := (List.getElem?_eq_some_iff.mp ez).1
        simp at this
        omega
      rw [ej, List.getElem?_append_right (Nat.le_refl _), Nat.sub_self] at ez
      obtain rfl := Option.some.inj (show some y = some z from ez)
      rw [ej, la, hi] at eb
      obtain rfl := Option.some.inj eb
      exact mono _ _ _ _ addS_upd r4
  · obtain ⟨s3, acc, hacc, la, each⟩ := inv
    exact q _ _ (s2.trans s3) ⟨D, acc, rfl, by rw [offS_at (f2.new hD)]; exact hacc, by rw [la, r1.length, List.length_map], fun i x a e1 e2 => mono _ _ _ _ addS_off (each i x a e1 e2)⟩
/-- data made of each -/
theorem e_lcE {ev : α → PyData} (mono : ∀ a F F' v, Same F F' → Pa a F v → Pa a F' v) (hl : EvP tl σ F fun H v => ∃ p xs, v = .ref p ∧ H p = some (.lst xs) ∧ Each Pa H xs as) (hz : as.length ≤ 1000)
    (ht : ∀ a ∈ as, ∀ x F1, Same F F1 → Pa a F1 x → GtP g x (wipe σ vs) F1 fun σ2 => wipe σ2 vs = wipe σ vs ∧ EvB tt σ2 F1 true ∧ EvD te σ2 F1 (ev a)) :
    EvD (tLc (iList K tl) g tt te vs) σ F (.list (as.map ev)) := fun S H1 f s Q q => hl S H1 f s _ fun v H2 s2 ⟨a, xs, ev1, h1, lx, ea⟩ => by
  subst ev1
  have h1' := offS_same _ _ h1
  refine ⟨a, rfl, ⟨xs, .inl (.inl h1')⟩, fun D hD => ?_⟩
  have f2 := f.mono s2
  have sF := s.trans (offS_mono (S := S) s2)
  have hDo : offS S H2 D = none := by
    unfold offS
    split
    · rfl
    · exact hD
  refine lc_list (fun i H' => Same H2 H' ∧ ∃ acc, H' D = some (.lst acc) ∧ RpA (offS (addS S D) H') acc ((as.take i).map ev)) ⟨same_new hD, [], upd_same, .nil⟩ (fun i H' _ p => .inl (.inl (p.1 _ _ h1'))) (fun i x H' hx inv => ?_) fun H' inv => ?_
  · obtain ⟨s3, acc, hacc, ra⟩ := inv
    have f1 : Fr (addS S D) H' := (f2.mono s3).add hacc trivial
    have s1 : Same (offS S H2) (offS (addS S D) H') := addS_new hDo (offS_mono s3)
    have li : i < as.length := by rw [← lx]; exact (List.getElem?_eq_some_iff.mp hx).1
    have hi : as[i]? = some as[i] := List.getElem?_eq_getElem li
    have e1 : as.take (i + 1) = as.take i ++ [as[i]] := take_more hi
    have la := ra.length
    rw [List.length_map, List.length_take] at la
    refine ht as[i] (List.getElem_mem li) x (offS (addS S D) H') (sF.trans s1) (mono _ _ _ _ s1 (ea i x _ hx hi)) (addS S D) H' f1 (Same.refl _) _ fun σ2 ⟨w, hb, he⟩ => ⟨w, hb (addS S D) H' f1 (Same.refl _) _ fun H3 s4 => ?_⟩
    refine he (addS S D) H3 (f1.mono s4) (offS_mono s4) _ fun y H4 s5 r4 => ⟨acc, (s4.trans s5) _ _ hacc, small9 (by omega), same_mut (s3.trans (s4.trans s5)) hD, _, upd_same, ?_⟩
    rw [e1, List.map_append]
    exact ((ra.mono (offS_mono (s4.trans s5))).mono addS_upd).append (.cons (r4.mono addS_upd) .nil)
  · obtain ⟨s3, acc, hacc, ra⟩ := inv
    rw [List.take_of_length_le (by omega)] at ra
    exact q _ _ (s2.trans s3) (.lst (by rw [offS_at (f2.new hD)]; exact hacc) (ra.mono addS_off))
/-- one of them -/
theorem e_ixE {ti : TE} {j : Nat} {a : α} (mono : ∀ a F F' v, Same F F' → Pa a F v → Pa a F' v) (hl : EvP tl σ F fun H v => ∃ p xs, v = .ref p ∧ H p = some (.lst xs) ∧ Each Pa H xs as) (hi : EvD ti σ F (.int (j : Int))) (ha : as[j]? = some a) : EvP (tOp (rIxL K) tl ti) σ F (Pa a) := fun S H1 f s Q q =>
  hl S H1 f s _ fun v H2 s2 ⟨p, xs, ev1, h1, lx, ea⟩ => hi S H2 (f.mono s2) (s.trans (offS_mono s2)) _ fun w H3 s3 r3 => by
    subst ev1
    cases r3
    have lj : j < xs.length := by rw [lx]; exact (List.getElem?_eq_some_iff.mp ha).1
    exact ⟨p, xs, _, xs[j], rfl, rfl, .inl (.inl (s3 _ _ (offS_same _ _ h1))), L2.at_of rfl (List.getElem?_eq_getElem lj), q _ H3 (s2.trans s3) (mono _ _ _ _ (offS_mono s3) (ea j _ a (List.getElem?_eq_getElem lj) ha))⟩
theorem e_lenE (hl : EvP tl σ F fun H v => ∃ p xs, v = .ref p ∧ H p = some (.lst xs) ∧ Each Pa H xs as) : EvD (tCB (rLenQ K) (tCons tl tNil)) σ F (.int (as.length : Int)) := fun S H1 f s Q q =>
  hl S H1 f s _ fun v H2 s2 ⟨p, xs, ev1, h1, lx, ea⟩ => by
    subst ev1
    exact ⟨p, xs, rfl, .inl (.inl (.inl (offS_same _ _ h1))), q _ H2 s2 (by rw [← lx]; exact .int _)⟩
end
end Ca

set_option maxHeartbeats 1000000
namespace Q
open PySem PySem.Spec PyProof.Rows L2 Ca TQ
theorem ats_offS {S : Addr → Bool} {H : Hp} (f : Fr S H) : ∀ {as : List At} {xs : List V}, RpA H xs (as.map atD) → RpA (offS S H) xs (as.map atD)
  | [], _, h => by
    cases h
    exact .nil
  | a :: as, _, h => by
    cases h with
    | cons h1 h2 =>
      obtain ⟨p, rfl, hp⟩ := at_of h1
      exact .cons (.tup (by rw [offS_at (f.imm hp (by simp [MutO]))]; exact hp) (.cons (.str _) (.cons (.int _) (.cons (.int _) .nil)))) (ats_offS f h2)
theorem srt_idem {rs ks : List Ro} (h : srtD (rs.map roD) = ks.map roD) : srtD (ks.map roD) = ks.map roD := by
  have tot : PySem.W.TotalLe (PySem.W.dataLe false (id : PyData → PyData)) := PySem.W.sortLe_total _ _ _
  have w : (srtD (rs.map roD)).Pairwise (fun a b => PySem.W.dataLe false id a b = true) := PySem.W.sort_pairwise tot _
  rw [h] at w
  exact List.mergeSort_of_pairwise w
/-- a drawn list of atoms -/
def AtS (m : Nat) : Hp → V → Prop := fun H v => ∃ as : List At, Rp H v (.list (as.map atD)) ∧ Four as ∧ as.length ≤ m
theorem mon_ats {m : Nat} : Mon (AtS m) := fun _ _ _ s ⟨as, r, f⟩ => ⟨as, r.mono s, f⟩
section
variable {s : Addr} {σ : L2.St} {F : Hp} {te : TE} {E : XK} {D : Addr}
theorem k_some {i m : Nat} (hi : σ[i]? = some (some (.ref s))) (h : EvK s te σ F (IntP 1 (m : Int))) (m4 : m ≤ 4) : EvK s (tCall spSome [] E (tCons (tVar i) (tCons te tNil))) σ F (AtS m) := fun S H1 f hS hc sm Q q =>
  ⟨_, hi, h S H1 f hS hc sm _ fun v H2 k2 c2 ⟨z, e, z1, z4⟩ => by
    subst e
    obtain ⟨n, rfl⟩ := Int.eq_ofNat_of_zero_le (show 0 ≤ z by omega)
    have f2 := k2.fr c2 f
    refine ⟨s, _, n, rfl, rfl, by omega, by omega, c2, fun fo xs as H3 f0 k3 c3 e r l1 ln g => q _ H3 (k2.trans k3) c3 ⟨as, ?_, ⟨g, l1, by omega⟩, by omega⟩⟩
    have fo' : S fo = false := f2.new f0
    exact .lst (by rw [offS_at fo']; exact e) (ats_offS (k3.fr c3 f2) r)⟩
def TabP (D : Addr) (m : Nat) : Hp → V → Prop := fun H v => ∃ ks : List Ro, TV D ks H v ∧ ks.length ≤ m ∧ (∀ a ∈ ks, GoodR a) ∧ (ks.map roK).Nodup
theorem k_tab {m : Nat} {u : Int} (h : EvK s te σ F (RowsU m u)) (m12 : m ≤ 12) : EvK s (tCall (spQ (ILt D)) [] E (tCons te tNil)) σ F (TabP D m) := fun S H1 f hS hc sm Q q =>
  h S H1 f hS hc sm _ fun v H2 k2 c2 ⟨rs, r, lr, gr, nd⟩ => by
    obtain ⟨ks, es, pks⟩ := srt_rows rs
    have ss : srtD (ks.map roD) = ks.map roD := by
      exact srt_idem es
    rw [es] at r
    have gk : ∀ a ∈ ks, GoodR a := fun a ha => (gr a (pks.mem_iff.mp ha)).g
    have lk : ks.length ≤ m := by rw [pks.length_eq]; exact lr
    have nk : (ks.map roK).Nodup := (pks.map roK).nodup_iff.mpr nd
    exact ⟨S, TV D ks, k2.fr c2 f, ⟨v, ks, rfl, r, by omega, gk, ⟨by rw [List.length_map]; omega, ks, rfl, gk, nk⟩, ss, rfl⟩, fun v3 H3 s3 p3 => q v3 H3 (k2.trans (.of s3)) (src_same c2 s3) ⟨ks, p3, lk, gk, nk⟩⟩
end
end Q

set_option maxHeartbeats 1000000
namespace Ca
open PySem PySem.Spec PyProof.Rows L2
section
variable {X : Cx} {K : PySem.W.Frag} {o e : Expr} {to te : TE} {apos cpos : Pos}
theorem pe_indexQ (hK : X.K = K) (ho : PE X o to) (he : PE X e te) (hbase : attributeBase o "index" X.env (eval o X.env) = eval o X.env := by rfl)
    (hfew : ((backTo cpos (starEach [e] X.env)).all (fun x => !x.1) && (backToKw cpos (keywordEach [] X.env)).all (fun x => x.1.isSome)
      && decide (([e] : List Expr).length + ([] : List Keyword).length + (if ([] : List Keyword).isEmpty then 0 else 1) < 30)) = true := by rfl)
    (hline : (apos.endLine == cpos.line) = true := by rfl) (hs : starEach [e] X.env = (false, eval e X.env) :: starEach [] X.env := by rfl) (hplain : (backTo cpos (starEach [] X.env)).any (·.1) = false := by rfl) :
    PE X (.Call (.Attribute o "index" apos) [e] [] cpos) (tBM K "list" (rIndex K) to (tCons te tNil)) := hK ▸ pe_bm PySem.F.plainAttrs_list PySem.F.slot_list_index PySem.F.type_list_index mt_index ho (pa_cons he pa_nil hs) hbase hfew hline hs hplain
end
section
variable {K : PySem.W.Frag} {σ : L2.St} {F : Hp} {to te : TE}
theorem e_index {ns : List Int} {x : Int} (ha : EvD to σ F (.list (ns.map .int))) (hb : EvD te σ F (.int x)) (hx : x ∈ ns) : EvD (tBM K "list" (rIndex K) to (tCons te tNil)) σ F (.int ((ns.idxOf x : Nat) : Int)) := fun S H1 f s Q q =>
  ha S H1 f s _ fun v H2 s2 r2 => by
    obtain ⟨a, xs, rfl, h1, r1⟩ := rp_lst r2
    rw [ints_rp r1] at h1
    refine ⟨.inl ⟨rfl, _, .inl (.inl h1)⟩, hb S H2 (f.mono s2) (s.trans (offS_mono s2)) _ fun w H3 s3 r3 => ?_⟩
    cases r3
    have lt := List.idxOf_lt_length_of_mem hx
    refine ⟨a, _, _, ns.idxOf x, .int x, rfl, rfl, .inl (.inl (s3 _ _ h1)), rfl, ints_flat ns, ?_, ?_, fun m z hm hz => ?_, q _ H3 (s2.trans s3) (.int _)⟩
    · rw [List.getElem?_map, List.getElem?_eq_getElem lt, List.getElem_idxOf]
      rfl
    · simp [eqV]
    · rw [List.getElem?_map] at hz
      have lm : m < ns.length := by omega
      rw [List.getElem?_eq_getElem lm] at hz
      cases (show some (V.int ns[m]) = some z from hz)
      have : ns[m] ≠ x := fun e => by
        have := List.not_of_lt_findIdx (xs := ns) (p := (· == x)) hm
        simp [e] at this
      simp [eqV, this]
end
end Ca

set_option maxHeartbeats 1000000
namespace Q
open PySem PySem.Spec PyProof.Rows L2 Ca
section
variable {K : PySem.W.Frag} {s : Addr} {σ : L2.St} {F : Hp} {ta tb te t1 t2 : TE} {tt tu : L2.TT} {P P1 P2 R : Hp → V → Prop} {Ps : List (Hp → V → Prop)} {E : XK} {d : PyData}
theorem k_if {b : Bool} (h : EvB tt σ F b) (h1 : b = true → EvK s ta σ F P) (h2 : b = false → EvK s tb σ F P) : EvK s (tIf tt ta tb) σ F P := fun S H1 f hS hc sm Q q => h S H1 f sm _ fun H2 s2 => by
  have q' : ∀ v H3, Kp s H2 H3 → Src H3 s → P (offS S H3) v → Q v H3 := fun v H3 k3 c3 p => q v H3 ((Kp.of s2).trans k3) c3 p
  cases b with
  | true => exact h1 rfl S H2 (f.mono s2) hS (src_same hc s2) (sm.trans (offS_mono s2)) Q q'
  | false => exact h2 rfl S H2 (f.mono s2) hS (src_same hc s2) (sm.trans (offS_mono s2)) Q q'
/-- a test whose outcome is drawn -/
def EvBD (s : Addr) (tt : L2.TT) (σ : L2.St) (F : Hp) : Prop := ∀ (S : Addr → Bool) (H1 : Hp), Fr S H1 → S s = true → Src H1 s → Same F (offS S H1) → ∀ Q : Bool → Hp → Prop, (∀ b H2, Kp s H1 H2 → Src H2 s → Q b H2) → tt σ H1 Q
theorem k_ifD (h : EvBD s tt σ F) (h1 : ∀ F', Same F F' → EvK s ta σ F' P) (h2 : ∀ F', Same F F' → EvK s tb σ F' P) : EvK s (tIf tt ta tb) σ F P := fun S H1 f hS hc sm Q q => h S H1 f hS hc sm _ fun b H2 k2 c2 => by
  have q' : ∀ v H3, Kp s H2 H3 → Src H3 s → P (offS S H3) v → Q v H3 := fun v H3 k3 c3 p => q v H3 (k2.trans k3) c3 p
  cases b with
  | true => exact h1 _ (sm.trans (k2.off hS)) S H2 (k2.fr c2 f) hS c2 (Same.refl _) Q q'
  | false => exact h2 _ (sm.trans (k2.off hS)) S H2 (k2.fr c2 f) hS c2 (Same.refl _) Q q'
theorem bd_cmp {g : Int → Int → Bool} {lo hi z : Int} (h : EvK s te σ F (IntP lo hi)) : EvBD s (tTest (tOp (rI0 fun i j => .bl (g i j)) te (tC (.int z)))) σ F := fun S H1 f hS hc sm Q q => h S H1 f hS hc sm _ fun v H2 k2 c2 ⟨x, e, _⟩ => by
  subst e
  exact ⟨_, _, rfl, rfl, _, rfl, q _ H2 k2 c2⟩
theorem bd_eq {lo hi z : Int} (h : EvK s te σ F (IntP lo hi)) : EvBD s (tTest (tOp rEq te (tC (.int z)))) σ F := fun S H1 f hS hc sm Q q => h S H1 f hS hc sm _ fun v H2 k2 c2 ⟨x, e, _⟩ => by
  subst e
  exact ⟨rfl, _, rfl, q _ H2 k2 c2⟩
theorem ls_of {l : List Int} {lo hi : Int} {v : V} (r : Rp F v (.list (l.map .int))) (h : ∀ x ∈ l, lo ≤ x ∧ x ≤ hi) : LsP l.length (IntP lo hi) F v := by
  cases r with
  | @lst a xs _ h1 r1 =>
    rw [ints_rp r1] at h1
    refine ⟨a, _, rfl, h1, List.length_map _, fun x hx => ?_⟩
    obtain ⟨z, hz, rfl⟩ := List.mem_map.mp hx
    exact ⟨z, rfl, h z hz⟩
variable {S : Addr → Bool} {H : Hp} {D : L2.Ends} {t u : TS} {tas : TA}
theorem go_parK {i j : Nat} (f : Fr S H) (hS : S s = true) (hc : Src H s) (h1 : EvK s t1 σ (offS S H) P1) (h2 : ∀ F', Same (offS S H) F' → EvK s t2 σ F' P2) (m1 : Mon P1)
    (k : ∀ v w H', Kp s H H' → Src H' s → Fr S H' → P1 (offS S H') v → P2 (offS S H') w → u D ((σ.set i (some v)).set j (some w)) H') : tSeq (tPar i j (tCons t1 (tCons t2 tNil))) u D σ H :=
  h1 S H f hS hc (Same.refl _) _ fun v H2 k2 c2 p1 => h2 _ (k2.off hS) S H2 (k2.fr c2 f) hS c2 (Same.refl _) _ fun w H3 k3 c3 p2 => ⟨v, w, rfl, k v w H3 (k2.trans k3) c3 ((k2.trans k3).fr c3 f) (m1 _ _ _ (k3.off hS) p1) p2⟩
theorem go_asgK2 {i j : Nat} (f : Fr S H) (hS : S s = true) (hc : Src H s) (h1 : EvK s t1 σ (offS S H) P1) (h2 : ∀ F', Same (offS S H) F' → EvK s t2 σ F' P2) (m1 : Mon P1) (m2 : Mon P2)
    (k : ∀ v w H', Kp s H H' → Src H' s → Fr S H' → P1 (offS S H') v → P2 (offS S H') w → u D ((σ.set i (some v)).set j (some w)) H') : tSeq (tAsg (tTup (tCons t1 (tCons t2 tNil))) (gTup K 2 (gCons (gName i) (gCons (gName j) gNil)))) u D σ H :=
  h1 S H f hS hc (Same.refl _) _ fun v H2 k2 c2 p1 => h2 _ (k2.off hS) S H2 (k2.fr c2 f) hS c2 (Same.refl _) _ fun w H3 k3 c3 p2 => ⟨show 2 ≤ sizeLine by decide, fun p hp => by
    have sn := same_new (o := .tup [v, w]) hp
    have kk := (k2.trans k3).trans (Kp.of sn)
    have cc := src_same c3 sn
    exact ⟨p, [v, w], rfl, .inl (.inl upd_same), rfl, _, _, rfl, _, _, rfl, rfl, k v w _ kk cc (kk.fr cc f) (m1 _ _ _ ((k3.off hS).trans (offS_mono sn)) p1) (m2 _ _ _ (offS_mono sn) p2)⟩⟩
/-- p[n] = .. -/
theorem go_putK {p : Addr} {i j n : Nat} {xs : List V} (f : Fr S H) (hS : S s = true) (hc : Src H s) (ne : p ≠ s) (hv : σ[i]? = some (some (.ref p))) (hj : σ[j]? = some (some (.int (n : Int)))) (hp : H p = some (.lst xs)) (hn : n < xs.length) (h : EvK s te σ (offS S H) P)
    (k : ∀ y H', Kp s H H' → Src H' s → H' p = some (.lst xs) → P (offS S H') y → D.nx σ (upd H' p (.lst (xs.set n y)))) : tAsg te (gSub (tVar i) (tVar j) L2.rSetL) D σ H :=
  h S H f hS hc (Same.refl _) _ fun v H' k' c r => ⟨_, hv, _, hj, p, xs, _, n, rfl, rfl, k' _ _ ne hp, by
    unfold ixN
    simp [hn], k v H' k' c (k' _ _ ne hp) r⟩
/-- one goes on the same way, whatever came -/
theorem cut_seq {t u : TS} (J : L2.St → Hp → Prop) (hd : ∀ σ' H', J σ' H' → u D σ' H') (h : (∀ σ' H', J σ' H' → u D σ' H') → tSeq t u D σ H) : tSeq t u D σ H := h hd
end
section
variable {α : Type} {K : PySem.W.Frag} {σ : L2.St} {F : Hp} {tt : L2.TT} {te tl : TE} {enc : α → PyData} {as : List α} {b : α → Bool} {ev : α → PyData} {g : TG} {vs : List Nat}
theorem lc_new (hl : EvD tl σ F (.list (as.map enc))) (hz : as.length ≤ 90000) (ht : ∀ a ∈ as, Turn g tt te σ vs F (enc a) (b a) (ev a)) {S : Addr → Bool} {H1 : Hp} (f : Fr S H1) (s : Same F (offS S H1)) {Q : VK}
    (q : ∀ p xs H2, H1 p = none → Same H1 H2 → Fr (addS S p) H2 → H2 p = some (.lst xs) → RpA (offS (addS S p) H2) xs ((as.filter b).map ev) → Q (.ref p) H2) : tLc (iList K tl) g tt te vs σ H1 Q := hl S H1 f s _ fun v H2 s2 r => by
  obtain ⟨a, xs, rfl, h1, r1⟩ := rp_lst r
  refine ⟨a, rfl, ⟨xs, .inl (.inl h1)⟩, fun D hD => ?_⟩
  have f2 := f.mono s2
  have sF := s.trans (offS_mono (S := S) s2)
  refine lc_list (LInv S H2 D as b ev) ⟨same_new hD, [], upd_same, .nil⟩ (fun i H' _ p => .inl (.inl (p.1 _ _ h1))) (fun i x H' hx inv => ?_) fun H' inv => ?_
  · obtain ⟨t, ht1, rx⟩ := l_get r1 hx
    exact l_turn f2 sF hD hz ht1 rx (ht t (List.mem_of_getElem? ht1)) inv
  · obtain ⟨s3, acc, hacc, ra⟩ := inv
    rw [List.take_of_length_le (by rw [r1.length, List.length_map]; exact Nat.le_refl _)] at ra
    exact q D acc H' (s2.free hD) (s2.trans s3) ((f2.mono s3).add hacc trivial) hacc ra
end
section
variable {α : Type} {K : PySem.W.Frag} {σ : L2.St} {tt : L2.TT} {te tl : TE} {enc : α → PyData} {as : List α} {b : α → Bool} {ev : α → PyData} {g : TG} {vs : List Nat} {S : Addr → Bool} {H : Hp} {D : L2.Ends} {u : TS} {i : Nat}
/-- a new list is stored, and may be changed -/
theorem go_lcNew (hl : EvD tl σ (offS S H) (.list (as.map enc))) (hz : as.length ≤ 90000) (ht : ∀ a ∈ as, Turn g tt te σ vs (offS S H) (enc a) (b a) (ev a)) (f : Fr S H)
    (k : ∀ p xs H2, H p = none → Same H H2 → Fr (addS S p) H2 → H2 p = some (.lst xs) → RpA (offS (addS S p) H2) xs ((as.filter b).map ev) → u D (σ.set i (some (.ref p))) H2) : tSeq (tAsg (tLc (iList K tl) g tt te vs) (gName i)) u D σ H :=
  lc_new (K := K) (b := b) hl hz ht f (Same.refl _) (Q := fun v H' => gName i v σ H' (u D)) fun p xs H2 h0 s2 f2 h2 r2 => k p xs H2 h0 s2 f2 h2 r2
end
theorem at_hid {S S' : Addr → Bool} {H : Hp} {v : V} {c : At} (f : Fr S' H) (r : Rp (offS S H) v (atD c)) : Rp (offS S' H) v (atD c) := by
  obtain ⟨p, rfl, hp⟩ := at_of r
  have h := offS_same _ _ hp
  exact .tup (by rw [offS_at (f.imm h (by simp [MutO]))]; exact h) (.cons (.str _) (.cons (.int _) (.cons (.int _) .nil)))
/-- a list of atoms at fo, to be changed -/
structure NIv (S : Addr → Bool) (s fo : Addr) (H0 : Hp) (bs : List At) (H : Hp) : Prop where
  kp : Kp s H0 H
  src : Src H s
  fr : Fr (addS S fo) H
  f0 : H0 fo = none
  sfo : S fo = false
  ss : S s = true
  at_ : ∃ xs, H fo = some (.lst xs) ∧ RpA (offS (addS S fo) H) xs (bs.map atD)
section
variable {S : Addr → Bool} {s fo : Addr} {H0 H H' : Hp} {bs : List At}
theorem NIv.frS (h : NIv S s fo H0 bs H) : Fr S H := fun a ha => h.fr a (by simp [addS, ha])
theorem NIv.ns (h : NIv S s fo H0 bs H) : fo ≠ s := fun z => by
  have a := h.sfo
  rw [z, h.ss] at a
  cases a
theorem NIv.rp (h : NIv S s fo H0 bs H) : Rp (offS S H) (.ref fo) (.list (bs.map atD)) := by
  obtain ⟨xs, e, r⟩ := h.at_
  exact .lst (by rw [offS_at h.sfo]; exact e) (r.mono addS_off)
theorem NIv.step (h : NIv S s fo H0 bs H) (k : Kp s H H') (c : Src H' s) : NIv S s fo H0 bs H' := by
  obtain ⟨xs, e, r⟩ := h.at_
  have hs : addS S fo s = true := addS_s h.ss
  exact ⟨h.kp.trans k, c, k.fr c h.fr, h.f0, h.sfo, h.ss, xs, k _ _ h.ns e, r.mono (k.off hs)⟩
theorem NIv.same (h : NIv S s fo H0 bs H) (k : Same H H') : NIv S s fo H0 bs H' := h.step (.of k) (src_same h.src k)
theorem fr_upd {S : Addr → Bool} {H : Hp} {p : Addr} {xs : List V} (f : Fr (addS S p) H) : Fr (addS S p) (upd H p (.lst xs)) := fun a ha => by
  by_cases e : a = p
  · exact ⟨.lst xs, by rw [e]; exact upd_same, trivial⟩
  · obtain ⟨o, h, m⟩ := f a ha
    exact ⟨o, by rw [upd_ne e]; exact h, m⟩
theorem NIv.upd (h : NIv S s fo H0 bs H) {xs : List V} {cs : List At} (r : RpA (offS (addS S fo) H) xs (cs.map atD)) : NIv S s fo H0 cs (upd H fo (.lst xs)) := by
  refine ⟨fun b o hb e => ?_, src_upd h.src h.ns, fr_upd h.fr, h.f0, h.sfo, h.ss, xs, upd_same, r.mono addS_upd⟩
  rw [upd_ne (fun z => by rw [z, h.f0] at e; cases e)]
  exact h.kp b o hb e
theorem rpa_setS {H : Hp} {v : V} {d : PyData} : ∀ {xs : List V} {ds : List PyData} (j : Nat), RpA H xs ds → Rp H v d → RpA H (xs.set j v) (ds.set j d)
  | _, _, _, .nil, _ => .nil
  | _, _, 0, .cons _ r, h => .cons h r
  | _, _, j + 1, .cons h r, h2 => .cons h (rpa_setS j r h2)
theorem NIv.put (h : NIv S s fo H0 bs H) {xs : List V} (e : H fo = some (.lst xs)) {j : Nat} {v : V} {c : At} (r : Rp (offS S H) v (atD c)) : NIv S s fo H0 (bs.set j c) (L2.upd H fo (.lst (xs.set j v))) := by
  obtain ⟨ys, e2, ra⟩ := h.at_
  rw [e] at e2
  cases e2
  refine h.upd ?_
  rw [List.map_set]
  exact rpa_setS j ra (at_hid h.fr r)
theorem rpa_dropLast {H : Hp} : ∀ {xs : List V} {ds : List PyData}, RpA H xs ds → RpA H xs.dropLast ds.dropLast
  | _, _, .nil => .nil
  | _, _, .cons h .nil => .nil
  | _, _, .cons h (.cons h2 r) => by
    rw [List.dropLast_cons₂, List.dropLast_cons₂]
    exact .cons h (rpa_dropLast (.cons h2 r))
end
end Q

set_option maxHeartbeats 1000000
namespace Q
open PySem PySem.Spec PyProof.Rows L2 Ca
section
variable {K : PySem.W.Frag} {s : Addr} {σ : L2.St} {F : Hp} {ta tb te tl : TE} {P : Hp → V → Prop} {m n : Nat}
theorem mem_ls {n : Nat} {P : Hp → V → Prop} {H : Hp} {v : V} {ds : List PyData} (r : Rp H v (.list ds)) (hn : ds.length = n) (h : ∀ d ∈ ds, ∀ x, Rp H x d → P H x) : LsP n P H v := by
  cases r with
  | @lst a xs _ h1 r1 =>
  refine ⟨a, xs, rfl, h1, by rw [r1.length, hn], fun x hx => ?_⟩
  obtain ⟨i, hi, rfl⟩ := List.mem_iff_getElem.mp hx
  obtain ⟨d, hd, rd⟩ := RpA.get r1 (List.getElem?_eq_getElem hi)
  exact h d (List.mem_of_getElem? hd) _ rd
/-- two lists put together -/
theorem k_cat (mo : Mon P) (h1 : EvK s ta σ F (LsP m P)) (h2 : EvK s tb σ F (LsP n P)) (hz : m + n ≤ 1000) : EvK s (tOp rCat ta tb) σ F (LsP (m + n) P) := fun S H1 f hS hc sm Q q =>
  h1 S H1 f hS hc sm _ fun v H2 k2 c2 ⟨a, xs, e1, ha, la, pa⟩ => h2 S H2 (k2.fr c2 f) hS c2 (sm.trans (k2.off hS)) _ fun w H3 k3 c3 ⟨b, ys, e2, hb, lb, pb⟩ => by
    subst e1 e2
    have ha3 := k3.off hS _ _ ha
    refine ⟨a, b, xs, ys, rfl, rfl, offS_same _ _ ha3, offS_same _ _ hb, Nat.le_of_lt (small1000 (by omega)), fun p hp => ?_⟩
    have sn := same_new (o := .lst (xs ++ ys)) hp
    have f3 := k3.fr c3 (k2.fr c2 f)
    refine q _ _ ((k2.trans k3).trans (.of sn)) (src_same c3 sn) ⟨p, _, rfl, offS_new f3 hp, by rw [List.length_append, la, lb], fun x hx => mo _ _ _ (offS_mono sn) ?_⟩
    exact (List.mem_append.mp hx).elim (fun z => mo _ _ _ (k3.off hS) (pa x z)) (pb x)
end
section
variable {α : Type} {K : PySem.W.Frag} {s : Addr} {σ : L2.St} {F : Hp} {tl te : TE} {g : TG} {vs : List Nat} {enc : α → PyData} {as : List α} {P : Hp → V → Prop}
theorem fr_none {S : Addr → Bool} {H : Hp} {D : Addr} (f : Fr S H) (h : H D = none) : S D = false := by
  cases z : S D with
  | false => rfl
  | true =>
    obtain ⟨o, e, _⟩ := f D z
    rw [h] at e
    cases e
/-- a comprehension whose elements are drawn -/
theorem k_lcD (mo : Mon P) (hl : EvD tl σ F (.list (as.map enc))) (hz : as.length ≤ 900)
    (ht : ∀ a ∈ as, ∀ x F1, Same F F1 → Rp F1 x (enc a) → GtP g x (wipe σ vs) F1 fun σ2 => wipe σ2 vs = wipe σ vs ∧ EvK s te σ2 F1 P) : EvK s (tLc (iList K tl) g tYes te vs) σ F (LsP as.length P) := fun S H1 f hS hc sm Q q => hl S H1 f sm _ fun v H2 s2 r => by
  cases r with
  | @lst a xs _ h0 r1 =>
  have h1 := offS_same _ _ h0
  refine ⟨a, rfl, ⟨xs, .inl (.inl h1)⟩, fun D hD => ?_⟩
  have f2 := f.mono s2
  have c2 := src_same hc s2
  have sF := sm.trans (offS_mono (S := S) s2)
  have nD : D ≠ s := fun z => by
    obtain ⟨x, y, c, e⟩ := c2
    rw [z, e] at hD
    cases hD
  have hSD := fr_none f2 hD
  have na : a ≠ D := fun z => by rw [z, hD] at h1; cases h1
  have hDo : offS S H2 D = none := by
    rw [offS_at hSD]
    exact hD
  have nas : a ≠ s := fun z => by
    rw [z] at h0
    unfold offS at h0
    rw [if_pos hS] at h0
    cases h0
  refine lc_list (fun i H' => Kp s H2 H' ∧ Src H' s ∧ ∃ acc, H' D = some (.lst acc) ∧ acc.length = i ∧ ∀ x ∈ acc, P (offS (addS S D) H') x) ⟨.of (same_new hD), src_same c2 (same_new hD), [], upd_same, rfl, fun x h => nomatch h⟩ (fun i H' _ p => .inl (.inl (p.1 _ _ nas h1))) (fun i x H' hx inv => ?_) fun H' inv => ?_
  · obtain ⟨t, hi, rx⟩ := l_get r1 hx
    obtain ⟨k3, c3, acc, hacc, la, each⟩ := inv
    have f3 : Fr S H' := k3.fr c3 f2
    have f1 : Fr (addS S D) H' := f3.add hacc trivial
    have s1 : Same (offS S H2) (offS (addS S D) H') := addS_new hDo (k3.off hS)
    have li : i < as.length := (List.getElem?_eq_some_iff.mp hi).1
    have hS2 : addS S D s = true := by unfold addS; rw [hS]; rfl
    refine ht t (List.mem_of_getElem? hi) x (offS (addS S D) H') (sF.trans s1) (rx.mono s1) (addS S D) H' f1 (Same.refl _) _ fun σ2 ⟨w, he⟩ => ⟨w, ?_⟩
    refine he (addS S D) H' f1 hS2 c3 (Same.refl _) _ fun y H4 k5 c5 p4 => ⟨acc, k5 _ _ nD hacc, by rw [la]; exact small9 (by omega), fun b o hb e => ?_, ?_, acc ++ [y], upd_same, by rw [List.length_append, la]; rfl, fun z hz2 => ?_⟩
    · have nb : b ≠ D := fun z => by rw [z, hD] at e; cases e
      rw [upd_ne nb]
      exact k5 b o hb (k3 b o hb e)
    · obtain ⟨x1, y1, c1, e1⟩ := c5
      exact ⟨x1, y1, c1, by rw [upd_ne nD.symm]; exact e1⟩
    · refine mo _ _ _ addS_upd ?_
      rcases List.mem_append.mp hz2 with h | h
      · exact mo _ _ _ (k5.off hS2) (each z h)
      · rw [List.mem_singleton.mp h]
        exact p4
  · obtain ⟨k3, c3, acc, hacc, la, each⟩ := inv
    refine q _ _ ((Kp.of s2).trans k3) c3 ⟨D, acc, rfl, by rw [offS_at hSD]; exact hacc, by rw [la, r1.length, List.length_map], fun x hx => mo _ _ _ addS_off (each x hx)⟩
end
/-- tuple(..) of what was drawn -/
theorem k_tupOf {K : PySem.W.Frag} {s : Addr} {σ : L2.St} {F : Hp} {te : TE} {P : Hp → V → Prop} {n : Nat} (mo : Mon P) (h : EvK s te σ F (LsP n P)) : EvK s (tCB (rTupQ K) (tCons te tNil)) σ F fun H v => ∃ a xs, v = .ref a ∧ H a = some (.tup xs) ∧ xs.length = n ∧ ∀ x ∈ xs, P H x := fun S H1 f hS hc sm Q q =>
  h S H1 f hS hc sm _ fun v H2 k2 c2 ⟨a, xs, e, ha, la, pa⟩ => by
    subst e
    have ha2 := offS_same _ _ ha
    have f2 := k2.fr c2 f
    exact ⟨a, xs, rfl, .inl ⟨.inl (.inl ha2), fun p hp => by
      have sn := same_new (o := .tup xs) hp
      exact q _ _ (k2.trans (.of sn)) (src_same c2 sn) ⟨p, xs, rfl, offS_new f2 hp, la, fun x hx => mo _ _ _ (offS_mono sn) (pa x hx)⟩⟩⟩
theorem go_retK {s : Addr} {σ : L2.St} {S : Addr → Bool} {H : Hp} {D : L2.Ends} {te : TE} {P : Hp → V → Prop} (f : Fr S H) (hS : S s = true) (hc : Src H s) (h : EvK s te σ (offS S H) P) (k : ∀ v H', Kp s H H' → Src H' s → P (offS S H') v → D.rt v H') : tRet te D σ H := h S H f hS hc (Same.refl _) _ k
end Q

set_option maxHeartbeats 1000000
namespace Q
open PySem PySem.Spec PyProof.Rows L2 Ca TQ GenW
def frP (p : Addr) : Addr → Bool := fun b => decide (b = p)
theorem frP_self (p : Addr) : frP p p = true := decide_eq_true rfl
theorem fr_src {p : Addr} {H : Hp} (h : Src H p) : Fr (frP p) H := fun b hb => by
  obtain ⟨x, y, z, e⟩ := h
  rw [of_decide_eq_true hb]
  exact ⟨_, e, trivial⟩
theorem same_kpN {s : Addr} {H H1 H2 : Hp} (s1 : Same H H1) (h0 : H s = none) (k : Kp s H1 H2) : Same H H2 := fun b o e => k b o (fun z => by rw [z, h0] at e; cases e) (s1 b o e)
theorem fit_txt {as : List At} (fa : Four as) : Fit (.str (txt as)) 0 162 := fit_str (m := 16) (ascii_txt fa.g) (by have := txt_len fa.g; have := fa.l4; omega)
section
variable {K : PySem.W.Frag} {s : Addr} {σ : L2.St} {F : Hp} {ta tb te : TE} {E : XK} {C : Addr} {as : List At} {P : Hp → V → Prop} {m n i : Nat}
/-- a sum of lists, which may be changed -/
theorem go_catNew {S : Addr → Bool} {H : Hp} {D : L2.Ends} {u : TS} (f : Fr S H) (hS : S s = true) (hc : Src H s) (mo : Mon P) (h1 : EvK s ta σ (offS S H) (LsP m P)) (h2 : ∀ F', Same (offS S H) F' → EvK s tb σ F' (LsP n P)) (hz : m + n ≤ 1000)
    (k : ∀ p xs H', H p = none → p ≠ s → Kp s H H' → Src H' s → Fr S H' → H' p = some (.lst xs) → xs.length = m + n → (∀ x ∈ xs, P (offS S H') x) → u D (σ.set i (some (.ref p))) H') : tSeq (tAsg (tOp rCat ta tb) (gName i)) u D σ H :=
  h1 S H f hS hc (Same.refl _) _ fun v H2 k2 c2 ⟨a, xs, e1, ha, la, pa⟩ => h2 _ (k2.off hS) S H2 (k2.fr c2 f) hS c2 (Same.refl _) _ fun w H3 k3 c3 ⟨b, ys, e2, hb, lb, pb⟩ => by
    subst e1 e2
    have ha3 := k3.off hS _ _ ha
    refine ⟨a, b, xs, ys, rfl, rfl, offS_same _ _ ha3, offS_same _ _ hb, Nat.le_of_lt (small1000 (by omega)), fun p hp => ?_⟩
    have sn := same_new (o := .lst (xs ++ ys)) hp
    have k13 := k2.trans k3
    have np : p ≠ s := fun z => by
      obtain ⟨x, y, c, e⟩ := c3
      rw [z, e] at hp
      cases hp
    have h0 : H p = none := by
      cases e : H p with
      | none => rfl
      | some o =>
        rw [k13 p o np e] at hp
        cases hp
    have kk := k13.trans (.of sn)
    have cc := src_same c3 sn
    exact k p _ _ h0 np kk cc (kk.fr cc f) upd_same (by rw [List.length_append, la, lb]) fun x hx => mo _ _ _ (offS_mono sn) ((List.mem_append.mp hx).elim (fun z => mo _ _ _ (k3.off hS) (pa x z)) (pb x))
end
section
variable {K : PySem.W.Frag} {i : Nat} {q : Addr} {xs : List V} {σ : L2.St} {H : Hp} {D : L2.Ends} {g : TG} {t u : TS}
theorem go_forV (hv : σ[i]? = some (some (.ref q))) (Pv : Nat → L2.St → Hp → Prop) (hl : ∀ i σ H, Pv i σ H → H q = some (.lst xs)) (h0 : Pv 0 σ H)
    (hs : ∀ i x σ H, xs[i]? = some x → Pv i σ H → g x σ H fun σ2 H2 => t { D with nx := Pv (i + 1), ct := Pv (i + 1), bk := D.nx } σ2 H2) (hd : ∀ σ H, Pv xs.length σ H → D.nx σ H) : tFor (iList K (tVar i)) g t D σ H :=
  ⟨_, hv, q, rfl, ⟨xs, .inl (.inl (hl _ _ _ h0))⟩, for_list (xs := xs) Pv h0 (fun i σ H _ p => .inl (.inl (hl _ _ _ p))) hs hd⟩
theorem go_forVS (hv : σ[i]? = some (some (.ref q))) (Pv : Nat → L2.St → Hp → Prop) (hl : ∀ i σ H, Pv i σ H → H q = some (.lst xs)) (h0 : Pv 0 σ H)
    (hs : ∀ i x σ H, xs[i]? = some x → Pv i σ H → g x σ H fun σ2 H2 => t { D with nx := Pv (i + 1), ct := Pv (i + 1), bk := u D } σ2 H2) (hd : ∀ σ H, Pv xs.length σ H → u D σ H) : tSeq (tFor (iList K (tVar i)) g t) u D σ H :=
  go_forV (D := { D with nx := u D }) hv Pv hl h0 hs hd
end
end Q

set_option maxHeartbeats 4000000
namespace Q
open PySem PySem.Spec PyProof.Rows L2 Ca TQ GenW
abbrev s_cts : Stmt := top 69
abbrev n_cts : List PySem.Str := ["_law_one", "_law_other", "_law_tables", "_law_there", "_law_back", "_law_table_here"]
theorem sc_cts : FnScope n_cts ["_law_one", "_law_other", "_law_tables"] (defScope s_cts) := ⟨rfl, rfl, rfl, by decide +kernel, rfl, by decide +kernel, by decide +kernel⟩
theorem mon_tab {D : Addr} {m : Nat} : Mon (TabP D m) := fun _ _ _ s ⟨ks, t, l, g, n⟩ => ⟨ks, t.mono s, l, g, n⟩
def ICts (C D : Addr) : Hp → List V → (Hp → V → Prop) → Prop := fun F vs P => ∃ v1 v2 v3 as bs, vs = [v1, v2, v3] ∧ QV C as F v1 ∧ QV C bs F v2 ∧ Four as ∧ Four bs ∧ LsP 3 (TabP D 8) F v3 ∧ P = fun H v => Rp H v (.bool true)
theorem pow_84 {a b : Nat} (h : a ≤ 8) (h4 : b ≤ 4) : a ^ b ≤ 90000 := by
  have h1 := Nat.pow_le_pow_left h b
  have h2 : 8 ^ b ≤ 8 ^ 4 := Nat.pow_le_pow_right (by decide) h4
  have h3 : 8 ^ 4 = 4096 := by decide
  omega
section
variable {P : Program} {w : World} {K : PySem.W.Frag} {mg : PySem.Str → Option Value} {base : Heap}
theorem ok_cts {f C D N fC pV fV : Addr} {fd fdC fdV : FuncData} (F : FnP K "_law_counts" s_cts f fd) (T : Tx K mg) (TQ : QT K mg C N)
    (cO : StX.CallO K C fC) (GC : FnOk P w K mg base CX0 6 fC fdC ["self", "table"] (spQ (ICnt C D))) (bC : Binds K fdC ["self", "table"] [])
    (GV : FnOk P w K mg base CX0 1 fV fdV ["self"] (spQ (IVars C))) (bV : Binds K fdV ["self"] []) (hV : PropOf K C "variables" pV fV)
    (D_cvr : Fd P w K mg base "covers" 6 ["one", "other"] (spQ (ITwo C fun as bs => .bool (cvB as bs)))) : FnOk P w K mg base CX0 7 f fd ["_law_one", "_law_other", "_law_tables"] (spQ (ICts C D)) := by
  obtain ⟨f_cvr, fd_cvr, G_cvr, b_cvr, k_cvr, m_cvr⟩ := D_cvr.ex
  have GC' : FnR P w K mg base CX0 6 fC (spQ (ICnt C D)) := (GC.raw bC .nil).imp fun vs H Q E h => by rw [List.append_nil]; exact h
  refine F.ok sc_cts (spQ_len (by rintro _ _ _ ⟨v1, v2, v3, as, bs, rfl, _⟩; rfl)) (fun cdv A outer s H vs Q E hr h => ?_)
  obtain ⟨S, P0, fr, ⟨v1, v2, v3, as, bs, rfl, q1, q2, fa, fb, l3, rfl⟩, q⟩ := h
  refine ⟨_, PSs.nox (pss_cons (ps_par (i := 3) (j := 4) (by rfl) sc_cts.nd rfl rfl (by decide) rfl rfl (pa_cons (pe_call G_cvr (hr.mono (by decide)) rfl m_cvr k_cvr b_cvr .nil pass0 (pa_cons (pv 0) (pa_cons (pv 1) pa_nil))) (pa_cons (pe_call G_cvr (hr.mono (by decide)) rfl m_cvr k_cvr b_cvr .nil pass0 (pa_cons (pv 1) (pa_cons (pv 0) pa_nil))) pa_nil)) (by rfl))
      (pss_cons (ps_for PassesOwn.never rfl (pi_listQ (K := K) rfl (pv 2)) (pg_name (i := 5) sc_cts.nd rfl (.inl rfl)) (pss_one (ps_if (PW.pt (pw_or (PW.pt (pw_and (pt_val (pv 3)) (pw_and1 (pt_cmpR op_lt (StX.pe_callO (pv 0) cO GC' (hr.mono (by decide)) pass0 (pa_cons (pv 5) pa_nil)) (StX.pe_callO (pv 1) cO GC' (hr.mono (by decide)) pass0 (pa_cons (pv 5) pa_nil)) (nomark _))))) (pw_or1 (PW.pt (pw_and (pt_val (pv 4)) (pw_and1 (pt_cmpR op_lt (StX.pe_callO (pv 1) cO GC' (hr.mono (by decide)) pass0 (pa_cons (pv 5) pa_nil)) (StX.pe_callO (pv 0) cO GC' (hr.mono (by decide)) pass0 (pa_cons (pv 5) pa_nil)) (nomark _)))))))) (pss_one (ps_ret pe_bl)) pss_nil)))
      (pss_one (ps_ret (pe_or (pe_not (pv 3)) (pe_or (pe_not (pv 4)) (pe_one (pe_cmpR op_eq (pe_callB (call_lenQ : CallR _ _ (rLenQ K)) (by rfl) T.len bLen (pa_cons (pe_prop (pv 0) TQ.cl hV GV (hr.mono (by decide)) bV .nil pass0 rfl) pa_nil)) (pe_callB (call_lenQ : CallR _ _ (rLenQ K)) (by rfl) T.len bLen (pa_cons (pe_prop (pv 1) TQ.cl hV GV (hr.mono (by decide)) bV .nil pass0 rfl) pa_nil)) (nomark _))))))))), ?_⟩
  have qs1 : ∀ {F' : Hp} {i : Nat} {σ : L2.St}, Same (offS S H) F' → σ[i]? = some (some v1) → EvP (tVar i) σ F' (QV C as) := fun sm e => e_varP e fun _ s => q1.mono (sm.trans s)
  have qs2 : ∀ {F' : Hp} {i : Nat} {σ : L2.St}, Same (offS S H) F' → σ[i]? = some (some v2) → EvP (tVar i) σ F' (QV C bs) := fun sm e => e_varP e fun _ s => q2.mono (sm.trans s)
  obtain ⟨p, xs, rfl, hp, lx, px⟩ := l3
  refine go_parS (P1 := fun H v => Rp H v (.bool (cvB as bs))) (P2 := fun H v => Rp H v (.bool (cvB bs as))) fr
    (e_call2 (qs1 (Same.refl _) rfl) (fun _ _ _ s h => h.mono s) (qs2 (Same.refl _) rfl) fun F v u h1 h2 => ⟨v, u, as, bs, rfl, h1, h2, fa.g, fb.g, fa.l1, fa.l4, fb.l4, rfl⟩)
    (e_call2 (qs2 (Same.refl _) rfl) (fun _ _ _ s h => h.mono s) (qs1 (Same.refl _) rfl) fun F v u h1 h2 => ⟨v, u, bs, as, rfl, h1, h2, fb.g, fa.g, fb.l1, fb.l4, fa.l4, rfl⟩)
    (fun _ _ _ s h => h.mono s) fun v4 v5 H1 s1 fr1 r4 r5 => ?_
  have o1 := offS_mono (S := S) s1
  have hp1 := offS_same _ _ (o1 _ _ hp)
  refine go_forVS (i := 2) (q := p) (xs := xs) rfl (fun j σ H' => ∃ x5, σ = [some v1, some v2, some (.ref p), some v4, some v5, x5] ∧ Same H1 H') (fun _ _ _ ⟨_, _, s⟩ => s _ _ hp1) ⟨_, rfl, Same.refl _⟩ ?_ ?_
  · rintro j x σ H' hx ⟨x5, rfl, s2⟩
    have fr2 := fr1.mono s2
    have o2 := offS_mono (S := S) s2
    obtain ⟨ks, tv, lk, gk, _⟩ := mon_tab _ _ _ (o1.trans o2) (px x (List.mem_of_getElem? hx))
    have n0 : ∀ r ∈ ks, 0 ≤ r.n := fun r hr => by
      have := (gk r hr).n1
      omega
    have c1 : ∀ {X : Cx} {σ : L2.St} {F' : Hp}, Same (offS S H') F' → σ[0]? = some (some v1) → σ[5]? = some (some x) → EvD (StX.tCallO X C (spQ (ICnt C D)) E0 (tVar 0) (tCons (tVar 5) tNil)) σ F' (.int (cntC as ks)) := fun sm e1 e2 =>
      e_qcall (qs1 ((o1.trans o2).trans sm) e1) (e_varP e2 fun _ s => tv.mono (sm.trans s)) fa.l4 (by omega) gk (pow_84 lk fa.l4)
    have c2 : ∀ {X : Cx} {σ : L2.St} {F' : Hp}, Same (offS S H') F' → σ[1]? = some (some v2) → σ[5]? = some (some x) → EvD (StX.tCallO X C (spQ (ICnt C D)) E0 (tVar 1) (tCons (tVar 5) tNil)) σ F' (.int (cntC bs ks)) := fun sm e1 e2 =>
      e_qcall (qs2 ((o1.trans o2).trans sm) e1) (e_varP e2 fun _ s => tv.mono (sm.trans s)) fb.l4 (by omega) gk (pow_84 lk fb.l4)
    refine go_if (b := false) fr2 (b_eq (b_or (a := cvB as bs && decide (cntC as ks < cntC bs ks)) (b_and (b_val (e_var rfl (r4.mono o2))) fun _ => b_val (e_cmp (c1 (Same.refl _) rfl rfl) (c2 (Same.refl _) rfl rfl)))
      fun _ => b_and (a := cvB bs as) (b := decide (cntC bs ks < cntC as ks)) (b_val (e_var rfl (r5.mono o2))) fun _ => b_val (e_cmp (c2 (Same.refl _) rfl rfl) (c1 (Same.refl _) rfl rfl))) ?_) (fun z => by cases z) fun _ H'' s'' fr'' => ⟨_, rfl, s2.trans s''⟩
    have z1 : (cvB as bs && decide (cntC as ks < cntC bs ks)) = false := by
      cases e : cvB as bs with
      | false => rfl
      | true => exact decide_eq_false (Int.not_lt.mpr (cvB_cnt fb e n0))
    have z2 : (cvB bs as && decide (cntC bs ks < cntC as ks)) = false := by
      cases e : cvB bs as with
      | false => rfl
      | true => exact decide_eq_false (Int.not_lt.mpr (cvB_cnt fa e n0))
    rw [z1, z2]
    rfl
  · rintro σ H' ⟨x5, rfl, s2⟩
    have fr2 := fr1.mono s2
    have o2 := offS_mono (S := S) s2
    refine go_ret (P := fun H v => Rp H v (.bool true)) fr2 (eqD (e_or (e_not (e_var rfl (r4.mono o2))) fun _ => e_or (e_not (e_var rfl (r5.mono o2))) fun _ => e_eqI (e_lenTI (K := K) (EvP.weak (e_prop (qs1 (o1.trans o2) rfl) qv_vars) fun F v h => h.ti)) (e_lenTI (K := K) (EvP.weak (e_prop (qs2 (o1.trans o2) rfl) qv_vars) fun F v h => h.ti))) ?_) fun v H3 s3 r3 => q v H3 ((s1.trans s2).trans s3) r3
    congr 1
    cases e1 : cvB as bs with
    | false => rfl
    | true =>
      cases e2 : cvB bs as with
      | false => rfl
      | true =>
        have l1 := cvB_vars fb e1
        have l2 := cvB_vars fa e2
        show (false || (false || decide (((nms as).length : Int) = ((nms bs).length : Int)))) = true
        have same : ((nms as).length : Int) = ((nms bs).length : Int) := by omega
        rw [decide_eq_true same]
        rfl
end
end Q

set_option maxHeartbeats 4000000
namespace Q
open PySem PySem.Spec PyProof.Rows L2 Ca TQ GenW
abbrev s_gcov : Stmt := top 52
theorem sc_gcov : GScope ["one", "other", "covering"] ["one", "other"] (defScope s_gcov) := ⟨rfl, rfl, rfl, by decide +kernel, rfl, by decide +kernel, by decide +kernel⟩
section
variable {P : Program} {w : World} {K : PySem.W.Frag} {mg : PySem.Str → Option Value} {base : Heap}
theorem ok_gcov {f C : Addr} {fd : FuncData} (F : FnP K "coverings" s_gcov f fd) (T : Tx K mg) (D1 : Fd P w K mg base "all_coverings" 5 ["one", "other"] (spQ (ITwo C covD))) : GFn P w K mg base 6 f fd ["one", "other"] (spG (ITwoG C covs)) := by
  obtain ⟨f1, fd1, G1, b1, k1, m1⟩ := D1.ex
  obtain ⟨oc, od, dV, kV, doc, pm, an, cd, ct, osl, rfl, lk, hc, _, _⟩ := F.ex
  refine gfn_of lk hc sc_gcov (fun vs H Q E h => ?_) fun A outer s H vs Q E pn hr h => ?_
  · obtain ⟨S, es, _, ⟨v1, v2, as, bs, rfl, _⟩, _⟩ := h
    rfl
  obtain ⟨S, es, fr, ⟨v1, v2, as, bs, rfl, q1, q2, ga, gb, l0, l1, l2, rfl⟩, q⟩ := h
  refine ⟨_, gss_cons (gs_for owns_gcx rfl (pi_listQ (K := K) rfl (pe_call G1 (hr.mono (by decide)) rfl m1 k1 b1 .nil pass0 (pa_cons (pv 0) (pa_cons (pv 1) pa_nil)))) (pg_name (i := 2) sc_gcov.nd rfl (.inl rfl)) (gss_cons (gs_yield (pv 2)) gss_nil)) gss_nil, ?_⟩
  refine go_gen (σ := [some v1, some v2, none]) (k := 2) fr (it_list fun S' H' f' s' Q' q' => ?_) (show 2 < 3 by decide) ?_ q
  · exact ⟨_, rfl, _, rfl, S', fun H v => Rp H v (covD as bs), f', ⟨_, _, as, bs, rfl, q1.mono s', q2.mono s', ga, gb, l0, l1, l2, rfl⟩, fun v H'' s'' r => q' v H'' s'' r⟩
  · rw [List.length_map]
    have := covs_len l1 l2 gb
    exact Nat.lt_of_le_of_lt this (by decide)
end
/-- list(coverings(a, b)) of two expressions -/
theorem e_covsV {σ : L2.St} {F : Hp} {C : Addr} {as bs : List At} {ta tb : TE} (h1 : EvP ta σ F (QV C as)) (h2 : EvP tb σ F (QV C bs)) (fa : Four as) (fb : Four bs) : EvD (tListG (tCallG (spG (ITwoG C covs)) [] E0 (tCons ta (tCons tb tNil)))) σ F (.list ((covs as bs).map tD)) :=
  e_listG (I := ITwoG C covs) fun S' H' f' s' Q' q' => h1 S' H' f' s' _ fun v1 H1 s1 p1 => h2 S' H1 (f'.mono s1) (s'.trans (offS_mono s1)) _ fun v2 H2 s2 p2 => q' _ H2 (s1.trans s2) ⟨v1, v2, as, bs, rfl, p1.mono (offS_mono s2), p2, fa.g, fb.g, fa.l1, fa.l4, fb.l4, rfl⟩
end Q

set_option maxHeartbeats 4000000
namespace Q
open PySem PySem.Spec PyProof.Rows L2 Ca TQ GenW
abbrev s_rit : Stmt := top 70
abbrev n_rit : List PySem.Str := ["_law_first", "_law_second", "_law_third", "_law_tables", "_law_names_here", "_law_ahead", "_law_behind_here", "_law_sent", "_law_later"]
theorem sc_rit : FnScope n_rit ["_law_first", "_law_second", "_law_third", "_law_tables"] (defScope s_rit) := ⟨rfl, rfl, rfl, by decide +kernel, rfl, by decide +kernel, by decide +kernel⟩
/-- three names set at once -/
theorem go_par3P {σ : L2.St} {t1 t2 t3 : TE} {P1 P2 P3 : Hp → V → Prop} {S : Addr → Bool} {H : Hp} {D : L2.Ends} {u : TS} {i j l : Nat} (f : Fr S H) (h1 : EvP t1 σ (offS S H) P1) (m1 : Mon P1) (h2 : EvP t2 σ (offS S H) P2) (m2 : Mon P2) (h3 : EvP t3 σ (offS S H) P3)
    (k : ∀ v w x H', Same H H' → Fr S H' → P1 (offS S H') v → P2 (offS S H') w → P3 (offS S H') x → u D (((σ.set i (some v)).set j (some w)).set l (some x)) H') : tSeq (tPar3 i j l (tCons t1 (tCons t2 (tCons t3 tNil)))) u D σ H :=
  h1 S H f (Same.refl _) _ fun v H2 s2 p1 => h2 S H2 (f.mono s2) (offS_mono s2) _ fun w H3 s3 p2 => h3 S H3 (f.mono (s2.trans s3)) (offS_mono (s2.trans s3)) _ fun x H4 s4 p3 =>
    ⟨v, w, x, rfl, k v w x H4 (s2.trans (s3.trans s4)) (f.mono (s2.trans (s3.trans s4))) (m1 _ _ _ (offS_mono (s3.trans s4)) p1) (m2 _ _ _ (offS_mono s4) p2) p3⟩
theorem e_neB {σ : L2.St} {F : Hp} {ta tb : TE} {i j : Bool} (ha : EvD ta σ F (.bool i)) (hb : EvD tb σ F (.bool j)) : EvD (tOp rNe ta tb) σ F (.bool (!decide (i = j))) := e_op ha hb fun S H x y f rx ry Q q => by
  cases rx
  cases ry
  have e : decide (V.bl i = V.bl j) = decide (i = j) := by simp
  exact ⟨rfl, q _ H (Same.refl _) (by rw [e]; exact .bl _)⟩
theorem mon_qv68 {C : Addr} {as : List At} : Mon (QV C as) := fun _ _ _ s h => h.mono s
theorem mon_l68 {D : Addr} : Mon (LsP 3 (TabP D 8)) := mon_ls mon_tab
theorem mon_ti {ns : List Int} : Mon (TupI ns) := fun _ _ _ s h => h.mono s
theorem mon_fzi {ns : List Int} : Mon (FzI ns) := fun _ _ _ s h => h.mono s
section
variable {σ : L2.St} {F : Hp} {C D : Addr} {ta tb tc : TE} {as bs : List At} {ns τ : List Int} {E : XK}
theorem e_scvT (h1 : EvP ta σ F (QV C as)) (h2 : EvP tb σ F (QV C bs)) (h3 : EvP tc σ F (TupI ns)) (fa : Four as) (fb : Four bs) (hc : isCov as bs ns) : EvD (tCall (spQ (IShT C)) [] E (tCons ta (tCons tb (tCons tc tNil)))) σ F (.bool true) := by
  have l : ns.length ≤ 1000 := by
    have := nms_len as
    have := fa.l4
    rw [hc.1]
    omega
  rw [← shows_cov fb hc]
  exact e_call3 h1 mon_qv68 h2 mon_qv68 h3 fun F v u w p1 p2 p3 => ⟨v, u, w, as, bs, ns, rfl, p1, p2, fa, fb, p3, l, rfl⟩
theorem e_cvr (h1 : EvP ta σ F (QV C as)) (h2 : EvP tb σ F (QV C bs)) (fa : Four as) (fb : Four bs) : EvD (tCall (spQ (ITwo C fun as bs => .bool (cvB as bs))) [] E (tCons ta (tCons tb tNil))) σ F (.bool (cvB as bs)) :=
  e_call2 h1 mon_qv68 h2 fun F v u p1 p2 => ⟨v, u, as, bs, rfl, p1, p2, fa.g, fb.g, fa.l1, fa.l4, fb.l4, rfl⟩
theorem e_cts (h1 : EvP ta σ F (QV C as)) (h2 : EvP tb σ F (QV C bs)) (h3 : EvP tc σ F (LsP 3 (TabP D 8))) (fa : Four as) (fb : Four bs) : EvD (tCall (spQ (ICts C D)) [] E (tCons ta (tCons tb (tCons tc tNil)))) σ F (.bool true) :=
  e_call3 h1 mon_qv68 h2 mon_qv68 h3 fun F v u w p1 p2 p3 => ⟨v, u, w, as, bs, rfl, p1, p2, fa, fb, p3, rfl⟩
theorem e_bhd (h1 : EvD ta σ F (tD ns)) (h2 : EvD tb σ F (tD τ)) (h3 : EvP tc σ F (FzI (nms bs))) (hi : ∀ x ∈ ns, x ∈ nms bs) (hl : τ.length = (nms bs).length) (hz : ns.length ≤ 1000) : EvP (tCall (spQ IBhd) [] E (tCons ta (tCons tb (tCons tc tNil)))) σ F (TupI (bhd ns τ (nms bs))) :=
  EvP.weak (e_call3 (P3 := fun H v => Rp H v (tD (bhd ns τ (nms bs)))) h1 mon_d h2 mon_d h3 fun F v u w p1 p2 p3 => ⟨v, u, w, ns, τ, nms bs, rfl, p1, p2, p3, hi, hl, hz, rfl⟩) fun F v h => ti_rp h
end
def IRit (C D : Addr) : Hp → List V → (Hp → V → Prop) → Prop := fun F vs P => ∃ v1 v2 v3 v4 as bs cs, vs = [v1, v2, v3, v4] ∧ QV C as F v1 ∧ QV C bs F v2 ∧ QV C cs F v3 ∧ Four as ∧ Four bs ∧ Four cs ∧ LsP 3 (TabP D 8) F v4 ∧ P = fun H v => Rp H v (.bool true)
section
variable {P : Program} {w : World} {K : PySem.W.Frag} {mg : PySem.Str → Option Value} {base : Heap}
theorem ok_rit {f C D N pV fV f_gcov : Addr} {fd fdV fd_gcov : FuncData} (F : FnP K "_law_is_right" s_rit f fd) (T : Tx K mg) (TQ : QT K mg C N)
    (GV : FnOk P w K mg base CX0 1 fV fdV ["self"] (spQ (IVars C))) (bV : Binds K fdV ["self"] []) (hV : PropOf K C "variables" pV fV)
    (D_cvr : Fd P w K mg base "covers" 6 ["one", "other"] (spQ (ITwo C fun as bs => .bool (cvB as bs)))) (D_scv : Fd P w K mg base "shows_covering" 6 ["one", "other", "thing"] (spQ (IShT C)))
    (D_cts : Fd P w K mg base "_law_counts" 7 ["_law_one", "_law_other", "_law_tables"] (spQ (ICts C D))) (D_bhd : Fd P w K mg base "_law_behind" 1 ["_law_first", "_law_second", "_law_names_here"] (spQ IBhd))
    (G_gcov : GFn P w K mg base 6 f_gcov fd_gcov ["one", "other"] (spG (ITwoG C covs))) (k_gcov : PySem.W.keepIn K (.ref f_gcov) = true) (b_gcov : Binds K fd_gcov ["one", "other"] []) (m_gcov : mg "coverings" = some (.ref f_gcov)) : FnOk P w K mg base CX0 12 f fd ["_law_first", "_law_second", "_law_third", "_law_tables"] (spQ (IRit C D)) := by
  obtain ⟨f_cvr, fd_cvr, G_cvr, b_cvr, k_cvr, m_cvr⟩ := D_cvr.ex
  obtain ⟨f_scv, fd_scv, G_scv, b_scv, k_scv, m_scv⟩ := D_scv.ex
  obtain ⟨f_cts, fd_cts, G_cts, b_cts, k_cts, m_cts⟩ := D_cts.ex
  obtain ⟨f_bhd, fd_bhd, G_bhd, b_bhd, k_bhd, m_bhd⟩ := D_bhd.ex
  refine F.ok sc_rit (spQ_len (by rintro _ _ _ ⟨v1, v2, v3, v4, as, bs, cs, rfl, _⟩; rfl)) (fun cdv A outer s H vs Q E hr h => ?_)
  obtain ⟨S, P0, fr, ⟨v1, v2, v3, v4, as, bs, cs, rfl, q1, q2, q3, fa, fb, fc, l4, rfl⟩, q⟩ := h
  refine ⟨_, PSs.nox (pss_cons (ps_if (PW.pt (pw_or (pt_not (pt_val (pe_call G_scv (hr.mono (by decide)) rfl m_scv k_scv b_scv .nil pass0 (pa_cons (pv 0) (pa_cons (pv 0) (pa_cons (pe_prop (pv 0) TQ.cl hV GV (hr.mono (by decide)) bV .nil pass0 rfl) pa_nil)))))) (pw_or1 (pt_not (pt_val (pe_call G_cvr (hr.mono (by decide)) rfl m_cvr k_cvr b_cvr .nil pass0 (pa_cons (pv 0) (pa_cons (pv 0) pa_nil)))))))) (pss_one (ps_ret pe_bl)) pss_nil)
      (pss_cons (ps_if (PW.pt (pw_or (pt_not (pt_val (pe_call G_cts (hr.mono (by decide)) rfl m_cts k_cts b_cts .nil pass0 (pa_cons (pv 0) (pa_cons (pv 1) (pa_cons (pv 3) pa_nil)))))) (pw_or1 (pt_not (pt_val (pe_call G_cts (hr.mono (by decide)) rfl m_cts k_cts b_cts .nil pass0 (pa_cons (pv 1) (pa_cons (pv 2) (pa_cons (pv 3) pa_nil))))))))) (pss_one (ps_ret pe_bl)) pss_nil)
      (pss_cons (ps_par3 (i := 4) (j := 5) (l := 6) (by rfl) sc_rit.nd rfl rfl rfl (by decide) (by decide) (by decide) rfl rfl rfl (pa_cons (pe_prop (pv 1) TQ.cl hV GV (hr.mono (by decide)) bV .nil pass0 rfl) (pa_cons (pe_listG (pgen_call G_gcov (hr.mono (by decide)) (by rfl) m_gcov k_gcov b_gcov .nil (pa_cons (pv 0) (pa_cons (pv 1) pa_nil))) passX stopE0 (hr.mono (by decide)) (by rfl) T.lst bLst) (pa_cons (pe_listG (pgen_call G_gcov (hr.mono (by decide)) (by rfl) m_gcov k_gcov b_gcov .nil (pa_cons (pv 1) (pa_cons (pv 2) pa_nil))) passX stopE0 (hr.mono (by decide)) (by rfl) T.lst bLst) pa_nil))) (by rfl))
      (pss_cons (ps_if (PW.pt (pw_or (pt_not (pt_val (pe_call G_cts (hr.mono (by decide)) rfl m_cts k_cts b_cts .nil pass0 (pa_cons (pv 0) (pa_cons (pv 2) (pa_cons (pv 3) pa_nil)))))) (pw_or1 (pt_cmpR op_ne (pe_call G_cvr (hr.mono (by decide)) rfl m_cvr k_cvr b_cvr .nil pass0 (pa_cons (pv 0) (pa_cons (pv 1) pa_nil))) (pe_cmpR (op_neD hr.units : OpR _ _ (rNeD K)) (pv 5) (pe_lst pa_nil) (nomark _)) (nomark _))))) (pss_one (ps_ret pe_bl)) pss_nil)
      (pss_cons (ps_for PassesOwn.never rfl (pi_listQ (K := K) rfl (pv 5)) (pg_name (i := 7) sc_rit.nd rfl (.inl rfl)) (pss_cons (ps_if (pt_not (pt_val (pe_call G_scv (hr.mono (by decide)) rfl m_scv k_scv b_scv .nil pass0 (pa_cons (pv 0) (pa_cons (pv 1) (pa_cons (pv 7) pa_nil)))))) (pss_one (ps_ret pe_bl)) pss_nil)
      (pss_one (ps_for PassesOwn.never rfl (pi_listQ (K := K) rfl (pe_slice (sl_list : SlR _ (rSlL K)) (pv 6) po_none (po_some pe_int))) (pg_name (i := 8) sc_rit.nd rfl (.inl rfl)) (pss_one (ps_if (pt_not (pt_val (pe_call G_scv (hr.mono (by decide)) rfl m_scv k_scv b_scv .nil pass0 (pa_cons (pv 0) (pa_cons (pv 2) (pa_cons (pe_call G_bhd (hr.mono (by decide)) rfl m_bhd k_bhd b_bhd .nil pass0 (pa_cons (pv 7) (pa_cons (pv 8) (pa_cons (pv 4) pa_nil)))) pa_nil)))))) (pss_one (ps_ret pe_bl)) pss_nil))))))
      (pss_one (ps_ret pe_bl))))))), ?_⟩
  have qs1 : ∀ {F' : Hp} {σ : L2.St}, Same (offS S H) F' → σ[0]? = some (some v1) → EvP (tVar 0) σ F' (QV C as) := fun sm e => e_varP e fun _ s => q1.mono (sm.trans s)
  have qs2 : ∀ {F' : Hp} {σ : L2.St}, Same (offS S H) F' → σ[1]? = some (some v2) → EvP (tVar 1) σ F' (QV C bs) := fun sm e => e_varP e fun _ s => q2.mono (sm.trans s)
  have qs3 : ∀ {F' : Hp} {σ : L2.St}, Same (offS S H) F' → σ[2]? = some (some v3) → EvP (tVar 2) σ F' (QV C cs) := fun sm e => e_varP e fun _ s => q3.mono (sm.trans s)
  have ls4 : ∀ {F' : Hp} {σ : L2.St}, Same (offS S H) F' → σ[3]? = some (some v4) → EvP (tVar 3) σ F' (LsP 3 (TabP D 8)) := fun sm e => e_varP e fun _ s => mon_l68 _ _ _ (sm.trans s) l4
  have r0 := Same.refl (offS S H)
  refine go_ifS (b := false) fr (b_eq (b_or (a := !true) (b := !(cvB as as)) (b_not (b_val (e_scvT (qs1 r0 rfl) (qs1 r0 rfl) (EvP.weak (e_prop (qs1 r0 rfl) qv_vars) fun F v h => h.ti) fa fa (cov_self as)))) fun _ => b_not (b_val (e_cvr (qs1 r0 rfl) (qs1 r0 rfl) fa fa))) (by rw [cvB_self fa]; rfl)) (fun z => by cases z) fun _ H1 s1 fr1 => ?_
  have o1 := offS_mono (S := S) s1
  refine go_ifS (b := false) fr1 (b_or (a := !true) (b := !true) (b_not (b_val (e_cts (qs1 o1 rfl) (qs2 o1 rfl) (ls4 o1 rfl) fa fb))) fun _ => b_not (b_val (e_cts (qs2 o1 rfl) (qs3 o1 rfl) (ls4 o1 rfl) fb fc))) (fun z => by cases z) fun _ H2 s2 fr2 => ?_
  have o2 := o1.trans (offS_mono (S := S) s2)
  refine go_par3P (P1 := FzI (nms bs)) (P2 := fun H v => Rp H v (.list ((covs as bs).map tD))) (P3 := fun H v => Rp H v (.list ((covs bs cs).map tD))) fr2 (e_prop (qs2 o2 rfl) qv_vars) mon_fzi (e_covsV (qs1 o2 rfl) (qs2 o2 rfl) fa fb) mon_d (e_covsV (qs2 o2 rfl) (qs3 o2 rfl) fb fc) fun v5 v6 v7 H3 s3 fr3 r5 r6 r7 => ?_
  have o3 := o2.trans (offS_mono (S := S) s3)
  have l68 := covs_len fa.l4 fb.l4 fb.g
  have l69 := covs_len fb.l4 fc.l4 fc.g
  refine go_ifS (b := false) fr3 (b_eq (b_or (a := !true) (b_not (b_val (e_cts (qs1 o3 rfl) (qs3 o3 rfl) (ls4 o3 rfl) fa fc))) fun _ => b_val (e_neB (e_cvr (qs1 o3 rfl) (qs2 o3 rfl) fa fb) (e_neD (K := K) (e_var rfl r6) (e_lst a_nil) (covs_ok as bs) cq_nil.ok))) ?_) (fun z => by cases z) fun _ H4 s4 fr4 => ?_
  · rw [cvB_ne]
    cases covs as bs with
    | nil => rfl
    | cons a l => simp [PyData.eqv, PyData.eqvAll]
  have o4 := offS_mono (S := S) s4
  have r64 := r6.mono o4
  refine go_forLS (enc := tD) (as := covs as bs) fr4 (e_var rfl r64) fun H5 s5 fr5 => ⟨fun i σ H' => ∃ x7 x8, σ = [some v1, some v2, some v3, some v4, some v5, some v6, some v7, x7, x8] ∧ Fr S H' ∧ Same H5 H', ⟨_, _, rfl, fr5, Same.refl _⟩, ?_, ?_, ?_⟩
  · rintro i σ H' ⟨x7, x8, rfl, f', s'⟩
    exact ⟨f', offS_mono s'⟩
  · rintro i ns x σ H6 hi rx ⟨x7, x8, rfl, fr6, s6⟩
    have hc : isCov as bs ns := (mem_covs fb.g).mp (List.mem_of_getElem? hi)
    have o56 := offS_mono (S := S) (s5.trans s6)
    have o6 := (o3.trans o4).trans o56
    refine go_ifS (b := false) fr6 (b_not (b := true) (b_val (e_scvT (qs1 o6 rfl) (qs2 o6 rfl) (EvP.weak (e_var rfl rx) fun F v h => ti_rp h) fa fb hc))) (fun z => by cases z) fun _ H7 s7 fr7 => ?_
    have o67 := offS_mono (S := S) s7
    have o7 := o6.trans o67
    have r77 := (r7.mono (o4.trans o56)).mono o67
    refine go_forL (enc := tD) (as := (covs bs cs).take 6) fr7 (eqD (e_slL (K := K) (e_var rfl r77) o_none (o_some (e_int (i := ((6 : Nat) : Int))))) (by rw [cut_take, List.map_take])) fun H8 s8 fr8 => ⟨fun j σ H' => ∃ x8, σ = [some v1, some v2, some v3, some v4, some v5, some v6, some v7, some x, x8] ∧ Fr S H' ∧ Same H8 H', ⟨_, rfl, fr8, Same.refl _⟩, ?_, ?_, ?_⟩
    · rintro j σ H' ⟨x8, rfl, f', s'⟩
      exact ⟨f', offS_mono s'⟩
    · rintro j τ y σ H9 hj ry ⟨x8, rfl, fr9, s9⟩
      have hd : isCov bs cs τ := (mem_covs fc.g).mp (List.mem_of_mem_take (List.mem_of_getElem? hj))
      have o79 := offS_mono (S := S) (s8.trans s9)
      have o9 := o7.trans o79
      refine go_if (b := false) fr9 (b_not (b := true) (b_val (e_scvT (qs1 o9 rfl) (qs3 o9 rfl) (e_bhd (bs := bs) (e_var rfl (rx.mono (o67.trans o79))) (e_var rfl ry) (e_varP rfl fun _ s => r5.mono ((((o4.trans o56).trans o67).trans o79).trans s)) (fun z hz => (cov_vars hc z).mp hz) hd.1 ?_) fa fc (cov_bhd hc hd)))) (fun z => by cases z) fun _ H10 s10 fr10 => ⟨_, rfl, fr10, s9.trans s10⟩
      have := nms_len as
      have := fa.l4
      rw [hc.1]
      omega
    · rintro σ H9 ⟨x8, rfl, fr9, s9⟩
      exact ⟨_, _, rfl, fr9, s6.trans (s7.trans (s8.trans s9))⟩
  · rintro σ H6 ⟨x7, x8, rfl, fr6, s6⟩
    exact go_ret (P := fun H v => Rp H v (.bool true)) fr6 e_bl fun v H7 s7 r => q v H7 ((((((s1.trans s2).trans s3).trans s4).trans s5).trans s6).trans s7) r
end
end Q

set_option maxHeartbeats 4000000
namespace Q
open PySem PySem.Spec PyProof.Rows L2 Ca
abbrev s_nrs : Stmt := top 67
abbrev n_nrs : List PySem.Str := ["_law_source_here", "_law_atoms", "_law_found", "_law_atom", "_law_way", "_law_at", "_law_first", "_law_second", "_law_third", "_law_one", "_law_name", "_law_by"]
theorem sc_nrs : FnScope n_nrs ["_law_source_here", "_law_atoms"] (defScope s_nrs) := ⟨rfl, rfl, rfl, by decide +kernel, rfl, by decide +kernel, by decide +kernel⟩
theorem nms10_dig {as : List At} : ∀ x ∈ (nms10 as).map fun n : Nat => (n : Int), 0 ≤ x ∧ x ≤ 9 := fun x hx => by
  obtain ⟨n, hn, rfl⟩ := List.mem_map.mp hx
  have := List.mem_range.mp (List.mem_filter.mp hn).1
  omega
theorem nms10_pos {as : List At} (fa : Four as) : 0 < (nms10 as).length := by
  match as, fa with
  | [], fa => exact absurd fa.l1 (by decide)
  | a :: as, fa =>
    have g := fa.g a (.head _)
    obtain ⟨n, e⟩ := Int.eq_ofNat_of_zero_le g.l0
    have g9 := g.l9
    refine List.length_pos_of_mem (a := n) (List.mem_filter.mpr ⟨List.mem_range.mpr (by omega), List.any_eq_true.mpr ⟨a, .head _, ?_⟩⟩)
    rw [Bool.or_eq_true]
    exact .inl (by rw [beq_iff_eq]; exact e.symm)
theorem nms10_few (as : List At) : (nms10 as).length ≤ 1000 := by
  have := List.length_filter_le (fun n : Nat => as.any fun a => ((n : Int) == a.l) || ((n : Int) == a.r)) (List.range 10)
  unfold nms10
  rw [List.length_range] at this
  omega
theorem names_ls {as : List At} {F : Hp} {v : V} (r : Rp F v (.list ((nms10 as).map fun n : Nat => .int (n : Int)))) : LsP (nms10 as).length (IntP 0 9) F v := by
  have := ls_of (lo := 0) (hi := 9) (l := (nms10 as).map fun n : Nat => (n : Int)) (by rw [List.map_map]; exact r) nms10_dig
  rw [List.length_map] at this
  exact this
def spNearS : Sp := fun vs H Q _ => ∃ (S : Addr → Bool) (s : Addr) (v : V) (as : List At), vs = [.ref s, v] ∧ Fr S H ∧ S s = true ∧ Src H s ∧ Rp (offS S H) v (.list (as.map atD)) ∧ Four as ∧
  ∀ (x : V) (bs : List At) (H' : Hp), Kp s H H' → Src H' s → Rp (offS S H') x (.list (bs.map atD)) → Four bs → Q x H'
def swp (b c x : Int) : Int := if x = b then c else x
theorem four_set {bs : List At} (fb : Four bs) {c : At} (g : Good c) {j : Nat} : Four (bs.set j c) := ⟨fun a ha => (List.mem_or_eq_of_mem_set ha).elim (fb.g a) fun e => e ▸ g, by rw [List.length_set]; exact fb.l1, by rw [List.length_set]; exact fb.l4⟩
section
variable {P : Program} {w : World} {K : PySem.W.Frag} {mg : PySem.Str → Option Value} {base : Heap}
theorem ok_nrs {f : Addr} {fd : FuncData} (F : FnP K "_law_near" s_nrs f fd) (T : Tx K mg) (D_dr : Fd P w K mg base "_law_draw" 1 ["_law_source_here", "_law_many"] spDraw) (D_nms : Fd P w K mg base "_law_names" 1 ["_law_atoms"] (spR RNames))
    (D_chl : Fd P w K mg base "_law_choose" 2 ["_law_source_here", "_law_values"] spChoose) (D_chs : Fd P w K mg base "_law_choose" 2 ["_law_source_here", "_law_values"] spChS) : FnOk P w K mg base CX0 3 f fd ["_law_source_here", "_law_atoms"] spNearS := by
  obtain ⟨f_dr, fd_dr, G_dr, b_dr, k_dr, m_dr⟩ := D_dr.ex
  obtain ⟨f_nms, fd_nms, G_nms, b_nms, k_nms, m_nms⟩ := D_nms.ex
  obtain ⟨f_chl, fd_chl, G_chl, b_chl, k_chl, m_chl⟩ := D_chl.ex
  obtain ⟨f_chs, fd_chs, G_chs, b_chs, k_chs, m_chs⟩ := D_chs.ex
  refine F.ok sc_nrs (fun vs H Q E h => ?_) (fun cdv A outer s0 H vs Q E hr h => ?_)
  · obtain ⟨S, s, v, as, rfl, _⟩ := h
    rfl
  obtain ⟨S, s, v1, as, rfl, fr, hS, hc, r1, fa, q⟩ := h
  have l1 := fa.l1
  have l4 := fa.l4
  refine ⟨_, PSs.nox (pss_cons (ps_setLc (i := 2) (own := [("_law_atom", 3)]) (g := gName 3) (by rfl) sc_nrs.nd rfl rfl (sw_true rfl rfl rfl (by decide +kernel)) (pi_listQ (K := K) rfl (pv 1)) (blkOk_by (own := [("_law_atom", 3)]) (N := n_nrs) (sc := (defScope s_nrs)) (by decide +kernel)) (fun _ _ _ _ _ => (pg_name (i := 3) sc_nrs.nd rfl (Or.inl rfl))) (fun _ _ _ _ _ => pts_nil) (fun _ _ _ _ _ => (pv 3)))
      (pss_cons (ps_par (i := 4) (j := 5) (by rfl) sc_nrs.nd rfl rfl (by decide) rfl rfl (pa_cons (pe_call G_dr (hr.mono (by decide)) rfl m_dr k_dr b_dr .nil pass0 (pa_cons (pv 0) (pa_cons pe_int pa_nil))) (pa_cons (pe_call G_dr (hr.mono (by decide)) rfl m_dr k_dr b_dr .nil pass0 (pa_cons (pv 0) (pa_cons (pe_callB (call_lenQ : CallR _ _ (rLenQ K)) (by rfl) T.len bLen (pa_cons (pv 1) pa_nil)) pa_nil))) pa_nil)) (by rfl))
      (pss_cons (ps_asg (pe_tup (pa_cons (pe_call G_dr (hr.mono (by decide)) rfl m_dr k_dr b_dr .nil pass0 (pa_cons (pv 0) (pa_cons pe_int pa_nil))) (pa_cons (pe_call G_chl (hr.mono (by decide)) rfl m_chl k_chl b_chl .nil pass0 (pa_cons (pv 0) (pa_cons (pe_call G_nms (hr.mono (by decide)) rfl m_nms k_nms b_nms .nil pass0 (pa_cons (pv 1) pa_nil)) pa_nil))) pa_nil))) (pg_tup (by rfl) (pgs_cons (pg_name (i := 6) sc_nrs.nd rfl (.inl rfl)) (pgs_cons (pg_name (i := 7) sc_nrs.nd rfl (.inr rfl)) pgs_nil))))
      (pss_cons (ps_if (pt_cmpR op_lt (pv 4) pe_int (nomark _)) (pss_cons (ps_set (i := 8) sc_nrs.nd rfl (.inr rfl) (pe_ifExp (pt_cmpR op_lt (pv 4) pe_int (nomark _)) (pe_call G_chl (hr.mono (by decide)) rfl m_chl k_chl b_chl .nil pass0 (pa_cons (pv 0) (pa_cons (pe_call G_nms (hr.mono (by decide)) rfl m_nms k_nms b_nms .nil pass0 (pa_cons (pv 1) pa_nil)) pa_nil))) (pv 6)))
      (pss_one (ps_setLc (i := 2) (own := [("_law_one", 9)]) (g := gName 9) (by rfl) sc_nrs.nd rfl rfl (sw_true rfl rfl rfl (by decide +kernel)) (pi_listQ (K := K) rfl (pv 1)) (blkOk_by (own := [("_law_one", 9)]) (N := n_nrs) (sc := (defScope s_nrs)) (by decide +kernel)) (fun _ _ _ _ _ => (pg_name (i := 9) sc_nrs.nd rfl (Or.inl rfl))) (fun _ _ _ _ _ => pts_nil) (fun _ _ _ _ _ => (pe_op (op_catA : OpR _ _ (rCatA K)) (pe_tup (pa_cons (pe_ix (ix_tup : IxR _ (rIxT K)) (pv 9) pe_int (fun _ _ => rfl)) pa_nil)) (pe_callTy (call_tupQ : CallR _ _ (rTupQ K)) (by rfl) T.tup bTup (pa_cons (pe_lc (own := [("_law_name", 10)]) (g := gName 10) rfl sc_nrs.nd (pi_tupQ (K := K) rfl (pe_slice (sl_tupA : SlR _ (rSlA K)) (pv 9) (po_some pe_int) po_none)) (blkOk_by (own := [("_law_name", 10)]) (N := n_nrs) (sc := (relS (lcS (sExpr ((sBody ((defBody s_nrs).getD 3 (.Pass ⟨0, 0, 0, 0⟩)) 0).getD 1 (.Pass ⟨0, 0, 0, 0⟩)))) (defScope s_nrs))) (by decide +kernel)) (fun _ _ _ _ _ => (pg_name (i := 10) sc_nrs.nd rfl (Or.inl rfl))) (fun _ _ _ _ _ => pts_nil) (fun _ _ _ _ _ => (pe_ifExp (pt_cmpR op_eq (pv 10) (pv 7) (nomark _)) (pv 8) (pv 10)))) pa_nil))))))) (pss_one (ps_if (pt_cmpR op_eq (pv 4) pe_int (nomark _)) (pss_one (ps_asg (pe_tup (pa_cons (pe_ix (ix_tup : IxR _ (rIxT K)) (pe_ix (ix_list : IxR _ (rIxL K)) (pv 2) (pv 5) (fun _ _ => rfl)) pe_int (fun _ _ => rfl)) (pa_cons (pe_ix (ix_tup : IxR _ (rIxT K)) (pe_ix (ix_list : IxR _ (rIxL K)) (pv 2) (pv 5) (fun _ _ => rfl)) pe_int (fun _ _ => rfl)) (pa_cons (pv 6) pa_nil)))) (pg_sub (pv 2) (pv 5) set_list))) (pss_one (ps_if (pt_cmpR op_eq (pv 4) pe_int (nomark _)) (pss_one (ps_asg (pe_ix (ix_list : IxR _ (rIxL K)) (pv 2) pe_int (fun _ _ => rfl)) (pg_sub (pv 2) (pv 5) set_list))) (pss_one (ps_if (pt_cmpR op_eq (pv 4) pe_int (nomark _)) (pss_one (ps_asg (pe_tup (pa_cons (pe_call G_chs (hr.mono (by decide)) rfl m_chs k_chs b_chs .nil pass0 (pa_cons (pv 0) (pa_cons pe_str pa_nil))) (pa_cons (pe_ix (ix_tup : IxR _ (rIxT K)) (pe_ix (ix_list : IxR _ (rIxL K)) (pv 2) (pv 5) (fun _ _ => rfl)) pe_int (fun _ _ => rfl)) (pa_cons (pe_ix (ix_tup : IxR _ (rIxT K)) (pe_ix (ix_list : IxR _ (rIxL K)) (pv 2) (pv 5) (fun _ _ => rfl)) pe_int (fun _ _ => rfl)) pa_nil)))) (pg_sub (pv 2) (pv 5) set_list))) pss_nil)))))))
      (pss_cons (ps_if (PW.pt (pw_and (pt_cmpR op_gt (pe_callB (call_lenQ : CallR _ _ (rLenQ K)) (by rfl) T.len bLen (pa_cons (pv 2) pa_nil)) pe_int (nomark _)) (pw_and1 (pt_cmpR op_eq (pe_call G_dr (hr.mono (by decide)) rfl m_dr k_dr b_dr .nil pass0 (pa_cons (pv 0) (pa_cons pe_int pa_nil))) pe_int (nomark _))))) (pss_one (ps_expr (pe_bm0 PySem.F.plainAttrs_list PySem.F.slot_list_pop PySem.F.type_list_pop mt_pop (pv 2)))) pss_nil)
      (pss_cons (ps_set (i := 11) sc_nrs.nd rfl (.inl rfl) (pe_call G_dr (hr.mono (by decide)) rfl m_dr k_dr b_dr .nil pass0 (pa_cons (pv 0) (pa_cons (pe_callB (call_lenQ : CallR _ _ (rLenQ K)) (by rfl) T.len bLen (pa_cons (pv 2) pa_nil)) pa_nil))))
      (pss_one (ps_ret (pe_op op_cat (pe_slice (sl_list : SlR _ (rSlL K)) (pv 2) (po_some (pv 11)) po_none) (pe_slice (sl_list : SlR _ (rSlL K)) (pv 2) po_none (po_some (pv 11)))))))))))), ?_⟩
  refine go_lcNew (K := K) (enc := atD) (as := as) (b := fun _ => true) (ev := atD) (e_var rfl r1) (by omega) (fun a ha y F1 s1 ry => g_name ⟨rfl, b_yes, fun _ => e_var rfl ry⟩) fr fun fo xs H1 f0 s1 fr1 h1 ra1 => ?_
  rw [filter_yes] at ra1
  have I1 : NIv S s fo H as H1 := ⟨.of s1, src_same hc s1, fr1, f0, fr.new f0, hS, xs, h1, ra1⟩
  refine go_parK I1.frS hS I1.src (k_draw (m := 7) rfl e_int (by decide) (by decide)) (fun F' sF => k_draw (m := (((as.map atD).length : Nat) : Int)) rfl (e_lenL (K := K) (e_var rfl ((r1.mono (I1.kp.off hS)).mono sF))) (by rw [List.length_map]; omega) (by rw [List.length_map]; omega)) mon_int fun vw va H2 kp2 c2 fr2 pw pa => ?_
  obtain ⟨way, rfl, w0, w6⟩ := pw
  obtain ⟨za, rfl, a0, a9⟩ := pa
  have I2 := I1.step kp2 c2
  have rN : ∀ {F'}, Same (offS S H2) F' → Rp F' v1 (.list (as.map atD)) := fun sF => (r1.mono (I2.kp.off hS)).mono sF
  refine go_asgK2 I2.frS hS I2.src (k_draw (m := 10) rfl e_int (by decide) (by decide)) (fun F' sF => k_choose (n := (nms10 as).length) (P := IntP 0 9) rfl (k_of (EvP.weak (e_call (R := RNames) (a_cons (e_var rfl (rN sF)) a_nil) ⟨as, rfl, by omega, rfl⟩) fun F v r => names_ls r)) mon_int (nms10_pos fa) (nms10_few as)) mon_int mon_int fun vf vs H3 kp3 c3 fr3 pf ps => ?_
  obtain ⟨z1, rfl, z10, z19⟩ := pf
  obtain ⟨z2, rfl, z20, z29⟩ := ps
  have I3 := I2.step kp3 c3
  rw [List.length_map] at a9
  obtain ⟨ja, rfl⟩ := Int.eq_ofNat_of_zero_le a0
  have hja : ja < as.length := by omega
  clear I1 I2 rN kp2 c2 fr2 kp3 c3 fr3 h1 ra1 s1 fr1 H1 H2
  refine cut_seq (fun σ' H' => ∃ (x3 x4 x5 x6 x7 x8 x9 x10 x11 : Option V) (fo' : Addr) (bs : List At), σ' = [some (.ref s), some v1, some (.ref fo'), x3, x4, x5, x6, x7, x8, x9, x10, x11] ∧ NIv S s fo' H bs H' ∧ Four bs) ?_ fun done => ?_
  · rintro σ' H' ⟨x3, x4, x5, x6, x7, x8, x9, x10, x11, fo', bs, rfl, I, fb⟩
    refine cut_seq (fun σ' H' => ∃ (x3 x4 x5 x6 x7 x8 x9 x10 x11 : Option V) (fo' : Addr) (bs : List At), σ' = [some (.ref s), some v1, some (.ref fo'), x3, x4, x5, x6, x7, x8, x9, x10, x11] ∧ NIv S s fo' H bs H' ∧ Four bs) ?_ fun done2 => ?_
    · clear I fb x3 x4 x5 x6 x7 x8 x9 x10 x11 bs fo'
      rintro σ' H' ⟨x3, x4, x5, x6, x7, x8, x9, x10, x11, fo', bs, rfl, I, fb⟩
      have b1 := fb.l1
      have b4 := fb.l4
      refine go_setK I.frS hS I.src (k_draw (m := (((bs.map atD).length : Nat) : Int)) rfl (e_lenL (K := K) (e_var rfl I.rp)) (by rw [List.length_map]; omega) (by rw [List.length_map]; omega)) fun v H5 kp5 c5 fr5 ⟨zb, e, zb0, zb9⟩ => ?_
      subst e
      obtain ⟨j, rfl⟩ := Int.eq_ofNat_of_zero_le zb0
      have I5 := I.step kp5 c5
      have lr : (bs.drop j ++ bs.take j).length = bs.length := by
        rw [List.length_append, List.length_drop, List.length_take]
        omega
      refine go_ret (P := fun H v => Rp H v (.list ((bs.drop j ++ bs.take j).map atD))) I5.frS (eqD (e_cat (e_slL (K := K) (e_var rfl I5.rp) (o_some (e_var rfl (.int _))) o_none) (e_slL (K := K) (e_var rfl I5.rp) o_none (o_some (e_var rfl (.int _)))) ?_) ?_) fun v H6 s6 r6 => q v (bs.drop j ++ bs.take j) H6 (I5.kp.trans (.of s6)) (src_same I5.src s6) r6 ⟨fun a ha => fb.g a ((List.mem_append.mp ha).elim List.mem_of_mem_drop List.mem_of_mem_take), by rw [lr]; exact b1, by rw [lr]; exact b4⟩
      · rw [cut_drop, cut_take, List.length_drop, List.length_take, List.length_map]
        omega
      · rw [cut_drop, cut_take, List.map_append, List.map_drop, List.map_take]
    · refine go_seq (go_ifAnd (S := S) I.frS (b_test (e_cmp (e_lenL (K := K) (e_var rfl I.rp)) e_int)) (fun z H5 s5 => ?_) fun _ H5 s5 => done2 _ _ ⟨_, _, _, _, _, _, _, _, _, fo', bs, rfl, I.same s5, fb⟩)
      have I5 := I.same s5
      refine bd_eq (k_draw (m := 6) rfl e_int (by decide) (by decide)) S H5 I5.frS hS I5.src (Same.refl _) _ fun b H6 kp6 c6 => ?_
      have I6 := I5.step kp6 c6
      cases b with
      | false =>
        rw [if_neg (by decide)]
        exact done2 _ _ ⟨_, _, _, _, _, _, _, _, _, fo', bs, rfl, I6, fb⟩
      | true =>
        rw [if_pos rfl]
        have two : 1 < bs.length := by
          rw [List.length_map] at z
          have := of_decide_eq_true z
          omega
        obtain ⟨xs, hx, rx⟩ := I6.at_
        have lx := rx.length
        rw [List.length_map] at lx
        have hy : xs[xs.length - 1]? = some xs[xs.length - 1] := List.getElem?_eq_getElem (by omega)
        refine ⟨_, rfl, .inl ⟨rfl, _, .inl (.inl hx)⟩, fo', xs, xs[xs.length - 1], rfl, rfl, hx, hy, done2 _ _ ⟨_, _, _, _, _, _, _, _, _, fo', bs.dropLast, rfl, I6.upd ?_, fun a ha => fb.g a ((List.dropLast_sublist _).subset ha), ?_, ?_⟩⟩
        · have e : bs.dropLast.map atD = (bs.map atD).dropLast := List.map_dropLast ..
          rw [e]
          exact rpa_dropLast rx
        · rw [List.length_dropLast]
          omega
        · rw [List.length_dropLast]
          have := fb.l4
          omega
  have ga := fa.g as[ja] (List.getElem_mem hja)
  have hda : (as.map atD)[ja]? = some (atD as[ja]) := by rw [List.getElem?_map, List.getElem?_eq_getElem hja]; rfl
  refine go_ifS I3.frS (b_test (e_cmp (e_var rfl (.int way)) e_int)) (fun _ H4 s4 fr4 => ?_) fun _ H4 s4 fr4 => ?_
  · have I4 := I3.same s4
    refine go_setK (P := IntP 0 9) I4.frS hS I4.src (k_if (b_test (e_cmp (e_var rfl (.int way)) e_int)) (fun _ => k_choose (n := (nms10 as).length) rfl (k_of (EvP.weak (e_call (R := RNames) (a_cons (e_var rfl (r1.mono (I4.kp.off hS))) a_nil) ⟨as, rfl, by omega, rfl⟩) fun F v r => names_ls r)) mon_int (nms10_pos fa) (nms10_few as)) fun _ => k_varI rfl z10 z19) fun v H5 kp5 c5 fr5 ⟨z3, e, z30, z39⟩ => ?_
    subst e
    have I5 := I4.step kp5 c5
    refine go_lcNew (K := K) (enc := atD) (as := as) (b := fun _ => true) (ev := fun a => atD (rnm (swp z2 z3) a)) (e_var rfl (r1.mono (I5.kp.off hS))) (by omega) (fun a ha y F1 s1 ry => g_name ⟨rfl, b_yes, fun _ => eqD (e_catT (e_tup (a_cons (e_ixT (n := 0) (e_var rfl ry) e_int rfl rfl) a_nil)) (e_tupOf (e_lcT (K := K) (enc := PyData.int) (as := [a.l, a.r]) (b := fun _ => true) (ev := fun x => .int (swp z2 z3 x)) (eqD (e_slT (e_var rfl ry) (o_some (e_int (i := ((1 : Nat) : Int)))) o_none) (by rw [cut_drop]; rfl)) (by show 2 ≤ 90000; decide) fun x hx y2 F3 s3 r3 => g_name ⟨rfl, b_yes, fun _ => e_ifP (b := decide (x = z2)) (b_test (e_eqI (e_var rfl r3) (e_var rfl (.int z2)))) (fun z => eqD (e_var rfl (.int z3)) ?_) fun z => eqD (e_var rfl r3) ?_⟩)) ?_) ?_⟩) I5.frS fun fo2 ys H6 g0 s6 fr6 h6 ra6 => ?_
    · unfold swp
      rw [if_pos (of_decide_eq_true z)]
    · unfold swp
      rw [if_neg (of_decide_eq_false z)]
    · show 1 + 2 ≤ 1000
      decide
    · rfl
    · rw [filter_yes] at ra6
      have ns2 : fo2 ≠ s := fun z => by
        obtain ⟨a, b, c, e⟩ := c5
        rw [z, e] at g0
        cases g0
      have f02 : H fo2 = none := by
        cases e : H fo2 with
        | none => rfl
        | some o =>
          rw [I5.kp fo2 o ns2 e] at g0
          cases g0
      exact done _ _ ⟨_, _, _, _, _, _, _, _, _, fo2, as.map (rnm (swp z2 z3)), rfl, ⟨I5.kp.trans (.of s6), src_same I5.src s6, fr6, f02, fr.new f02, hS, ys, h6, by rw [List.map_map]; exact ra6⟩, ⟨fun a ha => by
        obtain ⟨b, hb, rfl⟩ := List.mem_map.mp ha
        have g := fa.g b hb
        have h : ∀ x, 0 ≤ x → x ≤ 9 → 0 ≤ swp z2 z3 x ∧ swp z2 z3 x ≤ 9 := fun x a b => by
          unfold swp
          split <;> omega
        exact ⟨g.k, (h _ g.l0 g.l9).1, (h _ g.l0 g.l9).2, (h _ g.r0 g.r9).1, (h _ g.r0 g.r9).2⟩, by rw [List.length_map]; exact l1, by rw [List.length_map]; exact l4⟩⟩
  have I4 := I3.same s4
  refine go_if I4.frS (b_test (e_eqI (e_var rfl (.int way)) e_int)) (fun _ H5 s5 fr5 => ?_) fun _ H5 s5 fr5 => ?_
  · have I5 := I4.same s5
    obtain ⟨xs5, h5, rx5⟩ := I5.at_
    have lx := rx5.length
    rw [List.length_map] at lx
    exact go_putK (P := fun H v => Rp H v (atD ⟨as[ja].k, as[ja].l, z1⟩)) I5.frS hS I5.src I5.ns rfl rfl h5 (by omega) (k_of (e_tup (a_cons (e_ixT (n := 0) (e_ixL (K := K) (e_var rfl I5.rp) (e_var rfl (.int _)) rfl hda) e_int rfl rfl) (a_cons (e_ixT (n := 1) (e_ixL (K := K) (e_var rfl I5.rp) (e_var rfl (.int _)) rfl hda) e_int rfl rfl) (a_cons (e_var rfl (.int _)) a_nil))))) fun y H6 kp6 c6 h6 ry => done _ _ ⟨_, _, _, _, _, _, _, _, _, fo, _, rfl, (I5.step kp6 c6).put h6 ry, four_set fa (c := ⟨as[ja].k, as[ja].l, z1⟩) ⟨ga.k, ga.l0, ga.l9, by show 0 ≤ z1; omega, by show z1 ≤ 9; omega⟩⟩
  have I5 := I4.same s5
  refine go_if I5.frS (b_test (e_eqI (e_var rfl (.int way)) e_int)) (fun _ H6 s6 fr6 => ?_) fun _ H6 s6 fr6 => ?_
  · have I6 := I5.same s6
    obtain ⟨xs6, h6, rx6⟩ := I6.at_
    have lx := rx6.length
    rw [List.length_map] at lx
    have hd0 : (as.map atD)[0]? = some (atD (as[0]'(by omega))) := by rw [List.getElem?_map, List.getElem?_eq_getElem (by omega)]; rfl
    exact go_putK (P := fun H v => Rp H v (atD (as[0]'(by omega)))) I6.frS hS I6.src I6.ns rfl rfl h6 (by omega) (k_of (e_ixL (K := K) (n := 0) (e_var rfl I6.rp) e_int rfl hd0)) fun y H7 kp7 c7 h7 ry => done _ _ ⟨_, _, _, _, _, _, _, _, _, fo, _, rfl, (I6.step kp7 c7).put h7 ry, four_set fa (fa.g _ (List.getElem_mem _))⟩
  have I6 := I5.same s6
  refine go_if I6.frS (b_test (e_eqI (e_var rfl (.int way)) e_int)) (fun _ H7 s7 fr7 => ?_) fun _ H7 s7 fr7 => ?_
  · have I7 := I6.same s7
    obtain ⟨xs7, h7, rx7⟩ := I7.at_
    have lx := rx7.length
    rw [List.length_map] at lx
    refine go_putK (P := TpP [KindP, (fun H v => Rp H v (.int as[ja].l)), (fun H v => Rp H v (.int as[ja].r))]) I7.frS hS I7.src I7.ns rfl rfl h7 (by omega) (k_tup (ka_cons (k_chS rfl (by decide +kernel) (by decide +kernel) (by decide +kernel)) mon_kind (ka_cons (k_of (e_ixT (n := 1) (e_ixL (K := K) (e_var rfl I7.rp) (e_var rfl (.int _)) rfl hda) e_int rfl rfl)) mon_d (ka_cons (k_of (e_ixT (n := 2) (e_ixL (K := K) (e_var rfl I7.rp) (e_var rfl (.int _)) rfl hda) e_int rfl rfl)) mon_d ka_nil))) (by simp [mon_kind, mon_d]) (by simp)) fun y H8 kp8 c8 h8 ry => ?_
    obtain ⟨t, ys, rfl, ht, ps⟩ := ry
    cases ps with
    | cons h1 ps =>
      cases ps with
      | cons h2 ps =>
        cases ps with
        | cons h3 ps =>
          cases ps
          obtain ⟨k, rfl, hk⟩ := h1
          cases h2
          cases h3
          exact done _ _ ⟨_, _, _, _, _, _, _, _, _, fo, _, rfl, (I7.step kp8 c8).put (c := ⟨k, as[ja].l, as[ja].r⟩) h8 (.tup ht (.cons (.str _) (.cons (.int _) (.cons (.int _) .nil)))), four_set fa (c := ⟨k, as[ja].l, as[ja].r⟩) ⟨hk, ga.l0, ga.l9, ga.r0, ga.r9⟩⟩
  · exact done _ _ ⟨_, _, _, _, _, _, _, _, _, fo, as, rfl, I6.same s7, fa⟩
end
end Q

set_option maxHeartbeats 4000000
namespace Q
open PySem PySem.Spec PyProof.Rows L2 Ca TQ GenW
abbrev s_law : Stmt := top 71
abbrev n_law : List PySem.Str := ["_law_script", "_law_index", "_law_source_here", "_law_lap", "_law_atoms", "_law_others", "_law_last", "_law_some_here", "_law_one", "_law_tables"]
theorem sc_law : FnScope n_law ["_law_script"] (defScope s_law) := ⟨rfl, rfl, rfl, by decide +kernel, rfl, by decide +kernel, by decide +kernel⟩
section
variable {K : PySem.W.Frag} {s : Addr} {σ : L2.St} {F : Hp} {ta tb te tl : TE} {tas : TA} {E : XK} {C D : Addr} {as bs cs : List At} {P : Hp → V → Prop} {Ps : List (Hp → V → Prop)} {m n i : Nat}
theorem k_near68 (hi : σ[i]? = some (some (.ref s))) (h : EvD te σ F (.list (as.map atD))) (fa : Four as) : EvK s (tCall spNearS [] E (tCons (tVar i) (tCons te tNil))) σ F (AtS 4) := fun S H1 f hS hc sm Q q =>
  ⟨_, hi, h S H1 f sm _ fun v H2 s2 r2 => ⟨S, s, v, as, rfl, f.mono s2, hS, src_same hc s2, r2, fa, fun x bs H' k c r fb => q x H' ((Kp.of s2).trans k) c ⟨bs, r, fb, fb.l4⟩⟩⟩
/-- a list display that may be changed later -/
theorem go_lst68 {S : Addr → Bool} {H : Hp} {G : L2.Ends} {u : TS} (f : Fr S H) (hS : S s = true) (hc : Src H s) (h : EvKA s tas σ (offS S H) Ps) (mo : Mon P) (w : ∀ P' ∈ Ps, ∀ H v, P' H v → P H v) (hl : Ps.length ≤ 1000)
    (k : ∀ p xs H', H p = none → p ≠ s → Kp s H H' → Src H' s → Fr S H' → H' p = some (.lst xs) → xs.length = Ps.length → (∀ x ∈ xs, P (offS S H') x) → u G (σ.set i (some (.ref p))) H') : tSeq (tAsg (tLst tas) (gName i)) u G σ H :=
  h S H f hS hc (Same.refl _) _ fun ws H2 k2 c2 r => ⟨by rw [r.length]; exact Nat.le_of_lt (small1000 hl), fun p hp => by
    have sn := same_new (o := .lst ws) hp
    have ne : p ≠ s := by
      rintro rfl
      obtain ⟨_, _, _, e⟩ := c2
      rw [e] at hp
      cases hp
    have was : H p = none := by
      cases e : H p with
      | none => rfl
      | some o => exact absurd (k2 p o ne e) (by rw [hp]; simp)
    have kk := k2.trans (Kp.of sn)
    have cc := src_same c2 sn
    exact k p ws _ was ne kk cc (kk.fr cc f) upd_same r.length fun x hx => mo _ _ _ (offS_mono sn) (psa_all (P2 := P) r (fun P' hP v => w P' hP _ v) x hx)⟩
/-- three questions in a list -/
def LqP (C : Addr) (as bs cs : List At) (F : Hp) (v : V) : Prop := ∃ a x y z, v = .ref a ∧ F a = some (.lst [x, y, z]) ∧ QV C as F x ∧ QV C bs F y ∧ QV C cs F z
theorem mon_lq : Mon (LqP C as bs cs) := fun _ _ _ s ⟨a, x, y, z, e, h, h1, h2, h3⟩ => ⟨a, x, y, z, e, s _ _ h, h1.mono s, h2.mono s, h3.mono s⟩
theorem e_lq0 (h : EvP te σ F (LqP C as bs cs)) : EvP (tOp (rIxL K) te (tC (.int 0))) σ F (QV C as) := fun S H1 f s Q q => h S H1 f s _ fun v H2 s2 ⟨a, x, y, z, e, h1, p1, p2, p3⟩ =>
  ⟨a, _, 0, x, e, rfl, .inl (.inl (offS_same _ _ h1)), atI_of (n := 0) rfl rfl, q _ H2 s2 p1⟩
theorem e_lq1 (h : EvP te σ F (LqP C as bs cs)) : EvP (tOp (rIxL K) te (tC (.int 1))) σ F (QV C bs) := fun S H1 f s Q q => h S H1 f s _ fun v H2 s2 ⟨a, x, y, z, e, h1, p1, p2, p3⟩ =>
  ⟨a, _, 1, y, e, rfl, .inl (.inl (offS_same _ _ h1)), atI_of (n := 1) rfl rfl, q _ H2 s2 p2⟩
theorem e_lq2 (h : EvP te σ F (LqP C as bs cs)) : EvP (tOp (rIxL K) te (tC (.int 2))) σ F (QV C cs) := fun S H1 f s Q q => h S H1 f s _ fun v H2 s2 ⟨a, x, y, z, e, h1, p1, p2, p3⟩ =>
  ⟨a, _, 2, z, e, rfl, .inl (.inl (offS_same _ _ h1)), atI_of (n := 2) rfl rfl, q _ H2 s2 p3⟩
theorem e_rit {t1 t2 t3 t4 : TE} (h1 : EvP t1 σ F (QV C as)) (h2 : EvP t2 σ F (QV C bs)) (h3 : EvP t3 σ F (QV C cs)) (h4 : EvP t4 σ F (LsP 3 (TabP D 8))) (fa : Four as) (fb : Four bs) (fc : Four cs) :
    EvD (tCall (spQ (IRit C D)) [] E (tCons t1 (tCons t2 (tCons t3 (tCons t4 tNil))))) σ F (.bool true) := fun S H1 f s Q q =>
  h1 S H1 f s _ fun v1 H2 s2 p1 => h2 S H2 (f.mono s2) (s.trans (offS_mono s2)) _ fun v2 H3 s3 p2 => h3 S H3 (f.mono (s2.trans s3)) (s.trans (offS_mono (s2.trans s3))) _ fun v3 H4 s4 p3 =>
    h4 S H4 (f.mono (s2.trans (s3.trans s4))) (s.trans (offS_mono (s2.trans (s3.trans s4)))) _ fun v4 H5 s5 p4 =>
      ⟨S, _, f.mono (s2.trans (s3.trans (s4.trans s5))), ⟨v1, v2, v3, v4, as, bs, cs, rfl, p1.mono (offS_mono (s3.trans (s4.trans s5))), p2.mono (offS_mono (s4.trans s5)), p3.mono (offS_mono s5), fa, fb, fc, p4, rfl⟩, fun v H6 s6 p6 => q v H6 (s2.trans (s3.trans (s4.trans (s5.trans s6)))) p6⟩
/-- where another list has grown, a table is what it was -/
theorem tab_upd {S : Addr → Bool} {H : Hp} {p : Addr} {xs ys : List V} {v : V} (fr : Fr S H) (hp : H p = some (.lst xs)) (fr2 : Fr S (upd H p (.lst ys))) (h : TabP D m (offS S H) v) : TabP D m (offS S (upd H p (.lst ys))) v := by
  obtain ⟨ks, t, l, g, nd⟩ := h
  have f1 : Fr (addS S p) H := fr.add hp trivial
  have t1 : TV D ks (offS (addS S p) H) v := TV.off f1 (t.mono offS_same)
  have t2 : TV D ks (upd H p (.lst ys)) v := (t1.mono addS_upd).mono offS_same
  exact ⟨ks, TV.off fr2 t2, l, g, nd⟩
end
section
variable {α : Type} {enc : α → PyData} {as : List α} {Pa : α → Hp → V → Prop} {K : PySem.W.Frag} {σ : L2.St} {F : Hp} {tl te : TE} {tt : L2.TT} {g : TG} {vs : List Nat}
/-- instances made of the things of a tuple -/
theorem e_lcI (mono : ∀ a, Mon (Pa a)) (hl : EvD tl σ F (.tuple (as.map enc))) (hz : as.length ≤ 1000)
    (ht : ∀ a ∈ as, ∀ x F1, Same F F1 → Rp F1 x (enc a) → GtP g x (wipe σ vs) F1 fun σ2 => wipe σ2 vs = wipe σ vs ∧ EvB tt σ2 F1 true ∧ EvP te σ2 F1 (Pa a)) :
    EvP (tLc (iTup K tl) g tt te vs) σ F fun H v => ∃ p xs, v = .ref p ∧ H p = some (.lst xs) ∧ xs.length = as.length ∧ ∀ (i : Nat) x a, xs[i]? = some x → as[i]? = some a → Pa a H x := fun S H1 f s Q q => hl S H1 f s _ fun v H2 s2 r => by
  obtain ⟨a, xs, rfl, h1, r1⟩ := rp_tup r
  refine ⟨a, rfl, ⟨xs, .inl (.inl h1)⟩, fun G hG => ?_⟩
  have f2 := f.mono s2
  have sF := s.trans (offS_mono (S := S) s2)
  have hGo : offS S H2 G = none := by
    unfold offS
    split
    · rfl
    · exact hG
  refine lc_tup (fun i H' => Same H2 H' ∧ ∃ acc, H' G = some (.lst acc) ∧ acc.length = i ∧ ∀ (j : Nat) x a, acc[j]? = some x → as[j]? = some a → Pa a (offS (addS S G) H') x) ⟨same_new hG, [], upd_same, rfl, fun j x a e => by simp at e⟩ (fun i H' _ p => .inl (.inl (p.1 _ _ h1))) (fun i x H' hx inv => ?_) fun H' inv => ?_
  · obtain ⟨b, hi, rx⟩ := l_get r1 hx
    obtain ⟨s3, acc, hacc, la, each⟩ := inv
    have f1 : Fr (addS S G) H' := (f2.mono s3).add hacc trivial
    have s1 : Same (offS S H2) (offS (addS S G) H') := addS_new hGo (offS_mono s3)
    have li : i < as.length := (List.getElem?_eq_some_iff.mp hi).1
    refine ht b (List.mem_of_getElem? hi) x (offS (addS S G) H') (sF.trans s1) (rx.mono s1) (addS S G) H' f1 (Same.refl _) _ fun σ2 ⟨w, hb, he⟩ => ⟨w, hb (addS S G) H' f1 (Same.refl _) _ fun H3 s4 => ?_⟩
    refine he (addS S G) H3 (f1.mono s4) (offS_mono s4) _ fun y H4 s5 r4 => ⟨acc, (s4.trans s5) _ _ hacc, by rw [la]; exact small9 (by omega), same_mut (s3.trans (s4.trans s5)) hG, _, upd_same, by rw [List.length_append, la]; rfl, fun j z c ez eb => ?_⟩
    rcases Nat.lt_or_ge j acc.length with lj | gj
    · rw [List.getElem?_append_left lj] at ez
      exact mono _ _ _ _ addS_upd (mono _ _ _ _ (offS_mono (s4.trans s5)) (each j z c ez eb))
    · have ej : j = acc.length := by
        have := (List.getElem?_eq_some_iff.mp ez).1
        simp at this
        omega
      subst ej
      rw [List.getElem?_append_right (Nat.le_refl _), Nat.sub_self] at ez
      obtain rfl := Option.some.inj (show some y = some z from ez)
      rw [la, hi] at eb
      obtain rfl := Option.some.inj eb
      exact mono _ _ _ _ addS_upd r4
  · obtain ⟨s3, acc, hacc, la, each⟩ := inv
    exact q _ _ (s2.trans s3) ⟨G, acc, rfl, by rw [offS_at (f2.new hG)]; exact hacc, by rw [la, r1.length, List.length_map], fun i x a e1 e2 => mono _ _ _ _ addS_off (each i x a e1 e2)⟩
end
def spLaw (K : PySem.W.Frag) : Sp := fun vs H Q _ => ∃ (a : Addr) (ns : List Int), vs = [.ref a] ∧ SqL K H a (ns.map V.int) ∧ ns.length ≤ 63 ∧ ∀ H', Q (.bl true) H'
section
variable {P : Program} {w : World} {K : PySem.W.Frag} {mg : PySem.Str → Option Value} {base : Heap}
theorem ok_law {f C D : Addr} {fd : FuncData} (F : FnP K "law" s_law f fd) (T : Tx K mg)
    (D_cell : Fd P w K mg base "_law_cell" 1 ["_law_script", "_law_index"] (spCell K)) (D_src : Fd P w K mg base "_law_source" 1 ["_law_cell_here"] spSource) (D_dr : Fd P w K mg base "_law_draw" 1 ["_law_source_here", "_law_many"] spDraw)
    (D_so : Fd P w K mg base "_law_some" 3 ["_law_source_here", "_law_most"] spSome) (D_lq : Fd P w K mg base "_law_question" 7 ["_law_atoms"] (spQ (ILq C)))
    (D_nrs : Fd P w K mg base "_law_near" 3 ["_law_source_here", "_law_atoms"] spNearS) (D_lrows : Fd P w K mg base "_law_rows" 3 ["_law_source_here", "_law_most", "_law_values"] spRows)
    (D_ltab : Fd P w K mg base "_law_table" 9 ["_law_rows_here"] (spQ (ILt D))) (D_rit : Fd P w K mg base "_law_is_right" 12 ["_law_first", "_law_second", "_law_third", "_law_tables"] (spQ (IRit C D))) : FnG P w K mg base CX0 13 f (spLaw K) := by
  obtain ⟨f_cell, fd_cell, G_cell, b_cell, k_cell, m_cell⟩ := D_cell.ex
  obtain ⟨f_src, fd_src, G_src, b_src, k_src, m_src⟩ := D_src.ex
  obtain ⟨f_dr, fd_dr, G_dr, b_dr, k_dr, m_dr⟩ := D_dr.ex
  obtain ⟨f_so, fd_so, G_so, b_so, k_so, m_so⟩ := D_so.ex
  obtain ⟨f_lq, fd_lq, G_lq, b_lq, k_lq, m_lq⟩ := D_lq.ex
  obtain ⟨f_nrs, fd_nrs, G_nrs, b_nrs, k_nrs, m_nrs⟩ := D_nrs.ex
  obtain ⟨f_lrows, fd_lrows, G_lrows, b_lrows, k_lrows, m_lrows⟩ := D_lrows.ex
  obtain ⟨f_ltab, fd_ltab, G_ltab, b_ltab, k_ltab, m_ltab⟩ := D_ltab.ex
  obtain ⟨f_rit, fd_rit, G_rit, b_rit, k_rit, m_rit⟩ := D_rit.ex
  refine fng_of F sc_law (FunD.bindsA (ps := ["_law_script"]) F fun _ _ _ _ _ _ us hl => match us, hl with | [_], _ => rfl) (fun vs H Q E h => ?_) (fun cdv A outer s0 H vs Q E hg hr h => ?_)
  · obtain ⟨a, ns, rfl, _⟩ := h
    rfl
  obtain ⟨a, ns, rfl, hS, h63, q⟩ := h
  refine ⟨_, PSs.nox (pss_cons (ps_for PassesOwn.never rfl (pi_range1 rfl T.range (pa_cons (pe_callB (call_max2 rfl) (by rfl) T.max bMax (pa_cons pe_int (pa_cons (pe_callB (call_min2 rfl) (by rfl) T.min bMin (pa_cons (pe_callB (call_lenQ : CallR _ _ (rLenQ K)) (by rfl) T.len bLen (pa_cons (pv 0) pa_nil)) (pa_cons pe_int pa_nil))) pa_nil))) pa_nil)) (pg_name (i := 1) sc_law.nd rfl (.inl rfl)) (pss_cons (ps_set (i := 2) sc_law.nd rfl (.inl rfl) (pe_call G_src (hr.mono (by decide)) rfl m_src k_src b_src .nil pass0 (pa_cons (pe_call G_cell (hr.mono (by decide)) rfl m_cell k_cell b_cell .nil pass0 (pa_cons (pv 0) (pa_cons (pv 1) pa_nil))) pa_nil)))
      (pss_one (ps_for PassesOwn.never rfl (pi_range1 rfl T.range (pa_cons pe_int pa_nil)) (pg_name (i := 3) sc_law.nd rfl (.inl rfl)) (pss_cons (ps_set (i := 4) sc_law.nd rfl (.inl rfl) (pe_call G_so (hr.mono (by decide)) rfl m_so k_so b_so .nil pass0 (pa_cons (pv 2) (pa_cons pe_int pa_nil))))
      (pss_cons (ps_set (i := 5) sc_law.nd rfl (.inl rfl) (pe_call G_nrs (hr.mono (by decide)) rfl m_nrs k_nrs b_nrs .nil pass0 (pa_cons (pv 2) (pa_cons (pv 4) pa_nil))))
      (pss_cons (ps_set (i := 6) sc_law.nd rfl (.inl rfl) (pe_ifExp (pt_cmpR op_gt (pe_call G_dr (hr.mono (by decide)) rfl m_dr k_dr b_dr .nil pass0 (pa_cons (pv 2) (pa_cons pe_int pa_nil))) pe_int (nomark _)) (pe_call G_nrs (hr.mono (by decide)) rfl m_nrs k_nrs b_nrs .nil pass0 (pa_cons (pv 2) (pa_cons (pv 5) pa_nil))) (pe_call G_so (hr.mono (by decide)) rfl m_so k_so b_so .nil pass0 (pa_cons (pv 2) (pa_cons pe_int pa_nil)))))
      (pss_cons (ps_setLc (i := 7) (own := [("_law_one", 8)]) (g := gName 8) (by rfl) sc_law.nd rfl rfl (sw_true rfl rfl rfl (by decide +kernel)) (pi_tupQ (K := K) rfl (pe_tup (pa_cons (pv 4) (pa_cons (pv 5) (pa_cons (pv 6) pa_nil))))) (blkOk_by (own := [("_law_one", 8)]) (N := n_law) (sc := (defScope s_law)) (by decide +kernel)) (fun _ _ _ _ _ => (pg_name (i := 8) sc_law.nd rfl (Or.inl rfl))) (fun _ _ _ _ _ => pts_nil) (fun _ _ _ _ _ => (pe_call G_lq (hr.mono (by decide)) rfl m_lq k_lq b_lq .nil pass0 (pa_cons (pv 8) pa_nil))))
      (pss_cons (ps_set (i := 9) sc_law.nd rfl (.inl rfl) (pe_lst (pa_cons (pe_call G_ltab (hr.mono (by decide)) rfl m_ltab k_ltab b_ltab .nil pass0 (pa_cons (pe_call G_lrows (hr.mono (by decide)) rfl m_lrows k_lrows b_lrows .nil pass0 (pa_cons (pv 2) (pa_cons pe_int (pa_cons (pe_tup (pa_cons pe_int (pa_cons pe_int pa_nil))) pa_nil)))) pa_nil)) (pa_cons (pe_call G_ltab (hr.mono (by decide)) rfl m_ltab k_ltab b_ltab .nil pass0 (pa_cons (pe_call G_lrows (hr.mono (by decide)) rfl m_lrows k_lrows b_lrows .nil pass0 (pa_cons (pv 2) (pa_cons pe_int (pa_cons (pe_tup (pa_cons pe_int (pa_cons pe_int (pa_cons pe_int (pa_cons pe_int pa_nil))))) pa_nil)))) pa_nil)) pa_nil))))
      (pss_cons (ps_expr (pe_bm PySem.F.plainAttrs_list PySem.F.slot_list_append PySem.F.type_list_append mt_append (pv 9) (pa_cons (pe_call G_ltab (hr.mono (by decide)) rfl m_ltab k_ltab b_ltab .nil pass0 (pa_cons (pe_call G_lrows (hr.mono (by decide)) rfl m_lrows k_lrows b_lrows .nil pass0 (pa_cons (pv 2) (pa_cons pe_int (pa_cons (pe_tup (pa_cons pe_int pa_nil)) pa_nil)))) pa_nil)) pa_nil)))
      (pss_one (ps_if (pt_not (pt_val (pe_call G_rit (hr.mono (by decide)) rfl m_rit k_rit b_rit .nil pass0 (pa_cons (pe_ix (ix_list : IxR _ (rIxL K)) (pv 7) pe_int (fun _ _ => rfl)) (pa_cons (pe_ix (ix_list : IxR _ (rIxL K)) (pv 7) pe_int (fun _ _ => rfl)) (pa_cons (pe_ix (ix_list : IxR _ (rIxL K)) (pv 7) pe_int (fun _ _ => rfl)) (pa_cons (pv 9) pa_nil))))))) (pss_one (ps_ret pe_bl)) pss_nil))))))))))))
      (pss_one (ps_ret pe_bl))), ?_⟩
  have sqS : ∀ {H' : Hp}, Same H H' → SqL K H' a (ns.map V.int) := fun s => s.seq hS
  refine ⟨_, rfl, a, _, rfl, .inl hS, _, 2, rfl, 1, _, rfl, _, rfl, ?_, ?_, ?_⟩
  · split <;> split <;> omega
  · have l : (((ns.map V.int).length : Nat) : Int) ≤ 63 := by
      rw [List.length_map]
      omega
    split <;> split <;> omega
  generalize Int.toNat _ = nk
  refine for_range (lo := 0) (n := nk) (fun i σ H' => ∃ x1 x2 x3 x4 x5 x6 x7 x8 x9, σ = [some (V.ref a), x1, x2, x3, x4, x5, x6, x7, x8, x9] ∧ Same H H') ⟨none, none, none, none, none, none, none, none, none, rfl, Same.refl H⟩ ?_ ?_
  · rintro i σ H' hi ⟨x1, x2, x3, x4, x5, x6, x7, x8, x9, rfl, sH⟩
    refine ⟨_, rfl, _, rfl, a, ns, _, rfl, by omega, sqS sH, fun z => ⟨z, rfl, fun p c1 c2 c3 hp => ?_⟩⟩
    have p0 : H p = none := sH.free hp
    have s1 : Same H (upd H' p (.lst [.int c1, .int c2, .int c3])) := sH.trans (same_new hp)
    have src1 : Src (upd H' p (.lst [.int c1, .int c2, .int c3])) p := ⟨c1, c2, c3, upd_same⟩
    generalize upd H' p (.lst [.int c1, .int c2, .int c3]) = H1 at s1 src1 ⊢
    refine ⟨3, rfl, by decide, by decide, for_range (lo := 0) (n := 3) (fun j σ H2 => ∃ x3 x4 x5 x6 x7 x8 x9, σ = [some (V.ref a), some (V.int (0 + (i : Int))), some (V.ref p), x3, x4, x5, x6, x7, x8, x9] ∧ Same H H2 ∧ Src H2 p)
      ⟨_, _, _, _, _, _, _, rfl, s1, src1⟩ ?_ ?_⟩
    · rintro j σ H2 hj ⟨x3, x4, x5, x6, x7, x8, x9, rfl, s2, src2⟩
      have hP : frP p p = true := frP_self p
      have fr2 : Fr (frP p) H2 := fr_src src2
      unfold gName
      refine go_setK (s := p) (P := AtS 4) fr2 hP src2 (k_some rfl (k_int (lo := 1) (hi := 4) (by decide) (by decide)) (by decide)) fun v4 H3 k3 c3 fr3 ⟨as, r4, fa, _⟩ => ?_
      refine go_setK (s := p) (P := AtS 4) fr3 hP c3 (k_near68 rfl (e_var rfl r4) fa) fun v5 H4 k4 c4 fr4 ⟨bs, r5, fb, _⟩ => ?_
      refine go_setK (s := p) (P := AtS 4) fr4 hP c4 (k_ifD (bd_cmp (k_draw (m := 4) rfl e_int (by decide) (by decide))) (fun F' sF => k_near68 rfl (e_var rfl (r5.mono sF)) fb) (fun F' sF => k_some rfl (k_int (lo := 1) (hi := 4) (by decide) (by decide)) (by decide))) fun v6 H5 k5 c5 fr5 ⟨cs, r6, fc, _⟩ => ?_
      have r45 := r4.mono ((k4.trans k5).off hP)
      have r55 := r5.mono (k5.off hP)
      have ff : ∀ l ∈ [as, bs, cs], Four l := fun l hl => by
        simp only [List.mem_cons, List.not_mem_nil, or_false] at hl
        rcases hl with rfl | rfl | rfl
        · exact fa
        · exact fb
        · exact fc
      refine go_setS (P := LqP C as bs cs) fr5 (EvP.weak (e_lcI (K := K) (Pa := fun l => QV C l) (enc := fun l : List At => .list (l.map atD)) (as := [as, bs, cs]) (fun _ => mon_qv68) (e_tup (ds := [.list (as.map atD), .list (bs.map atD), .list (cs.map atD)]) (a_cons (e_var rfl r45) (a_cons (e_var rfl r55) (a_cons (e_var rfl r6) a_nil))) (by show 3 ≤ _; decide)) (by simp) fun l hl x F1 sF rx => g_name ⟨rfl, b_yes, e_call1 (P0 := fun H v => Rp H v (.list (l.map atD))) (e_var rfl rx) fun F v r => ⟨v, l, rfl, r, (ff l hl).g, (ff l hl).l1, (ff l hl).l4, rfl⟩⟩) fun F v h => ?_) fun v7 H6 s6 fr6 l7 => ?_
      · obtain ⟨b, xs, rfl, hb, lx, each⟩ := h
        match xs, lx with
        | [x, y, z], _ => exact ⟨b, x, y, z, rfl, hb, each 0 x as rfl rfl, each 1 y bs rfl rfl, each 2 z cs rfl rfl⟩
      have c6 : Src H6 p := src_same c5 s6
      refine go_lst68 (s := p) (Ps := [TabP D 8, TabP D 8]) (P := TabP D 8) fr6 hP c6
        (ka_cons (k_tab (k_rowsU (m := 8) (ns := [0, 1]) (u := 99) rfl e_int (e_tup (a_cons e_int (a_cons e_int a_nil))) (by decide) (by decide) (by decide) (by decide) (by decide)) (by decide)) mon_tab
        (ka_cons (EvK.weak (k_tab (k_rowsU (m := 5) (ns := [0, 1, 2, 99]) (u := 99) rfl e_int (e_tup (a_cons e_int (a_cons e_int (a_cons e_int (a_cons e_int a_nil))))) (by decide) (by decide) (by decide) (by decide) (by decide)) (by decide)) fun H v ⟨ks, t, l, g, nd⟩ => ⟨ks, t, by omega, g, nd⟩) mon_tab ka_nil)) mon_tab (fun P' hP' H v h => ?_) (by simp) fun p9 xs H7 h0 n9 k7 c7 fr7 h9 lx px => ?_
      · simp only [List.mem_cons, List.not_mem_nil, or_false, or_self] at hP'
        rw [hP'] at h
        exact h
      have lx2 : xs.length = 2 := lx
      refine go_appK (s := p) (P := TabP D 8) fr7 hP c7 n9 rfl h9 (EvK.weak (k_tab (k_rowsU (m := 3) (ns := [0]) (u := 99) rfl e_int (e_tup (a_cons e_int a_nil)) (by decide) (by decide) (by decide) (by decide) (by decide)) (by decide)) fun H v ⟨ks, t, l, g, nd⟩ => ⟨ks, t, by omega, g, nd⟩) (by omega) fun y H8 k8 c8 h98 py => ?_
      have kA : Kp p H6 (upd H8 p9 (.lst (xs ++ [y]))) := fun b o hb e => by
        rw [upd_ne fun z => by rw [z, h0] at e; cases e]
        exact (k7.trans k8) b o hb e
      have cA : Src (upd H8 p9 (.lst (xs ++ [y]))) p := src_upd c8 n9
      have frA := kA.fr cA fr6
      have fr8 := (k7.trans k8).fr c8 fr6
      have pA : ∀ x ∈ xs ++ [y], TabP D 8 (offS (frP p) (upd H8 p9 (.lst (xs ++ [y])))) x := fun x hx => tab_upd fr8 h98 frA ((List.mem_append.mp hx).elim (fun z => mon_tab _ _ _ (k8.off hP) (px x z)) fun z => by rw [List.mem_singleton.mp z]; exact py)
      have hA : offS (frP p) (upd H8 p9 (.lst (xs ++ [y]))) p9 = some (.lst (xs ++ [y])) := by
        rw [offS_at (decide_eq_false n9)]
        exact upd_same
      have ly : (xs ++ [y]).length = 3 := by
        rw [List.length_append, lx2]
        rfl
      generalize upd H8 p9 (.lst (xs ++ [y])) = HA at kA cA frA pA hA
      have l7A := mon_lq _ _ _ (kA.off hP) l7
      have e7 : ∀ {σ : L2.St}, σ[7]? = some (some v7) → EvP (tVar 7) σ (offS (frP p) HA) (LqP C as bs cs) := fun e => e_varP e fun _ sm => mon_lq _ _ _ sm l7A
      refine go_if (b := false) frA (b_not (b := true) (b_val (e_rit (e_lq0 (K := K) (e7 rfl)) (e_lq1 (K := K) (e7 rfl)) (e_lq2 (K := K) (e7 rfl)) (e_varP rfl fun _ sm => mon_l68 _ _ _ sm ⟨p9, _, rfl, hA, ly, pA⟩) fa fb fc))) (fun z => by cases z) fun _ HB sB frB => ?_
      have kT : Kp p H2 HB := (((((k3.trans k4).trans k5).trans (Kp.of s6)).trans kA)).trans (Kp.of sB)
      exact ⟨_, _, _, _, _, _, _, rfl, same_kpN s2 p0 kT, src_same cA sB⟩
    · rintro σ H2 ⟨x3, x4, x5, x6, x7, x8, x9, rfl, s2, src2⟩
      exact ⟨_, _, _, _, _, _, _, _, _, rfl, s2⟩
  · rintro σ H' ⟨x1, x2, x3, x4, x5, x6, x7, x8, x9, rfl, sH⟩
    exact q H'
end
end Q

set_option maxHeartbeats 4000000
namespace Q
open PySem PySem.Spec PyProof.Rows L2 Ca TQ GenW
abbrev s_snd : Stmt := top 49
abbrev nSnd : List PySem.Str := ["one", "other", "found", "atom", "sent", "rest", "at", "goal"]
theorem sc_snd : FnScope nSnd ["one", "other"] (defScope s_snd) := ⟨rfl, rfl, rfl, by decide +kernel, rfl, by decide +kernel, by decide +kernel⟩
def ISnd (C : Addr) : Hp → List V → (Hp → V → Prop) → Prop := fun F vs P => ∃ v1 v2 as bs, vs = [v1, v2] ∧ QV C as F v1 ∧ QV C bs F v2 ∧ as.length ≤ 4 ∧ bs.length ≤ 4 ∧ P = fun H v => Rp H v (.list ((fin as bs).map fun c => .dict (c.1.map iD)))
section
variable {P : Program} {w : World} {K : PySem.W.Frag} {mg : PySem.Str → Option Value} {base : Heap}
theorem ok_snd {f C N pA fA : Addr} {fd fdA : FuncData} (F : FnP K "sendings" s_snd f fd) (T : Tx K mg) (TQ : QT K mg C N) (ge : mg "enumerate" = none) (D1 : Fd P w K mg base "agrees" 1 ["chosen", "atom", "row"] (spR RAg))
    (GA : FnOk P w K mg base CX0 1 fA fdA ["self"] (spQ (IAtoms C))) (bA : Binds K fdA ["self"] []) (hA : PropOf K C "atoms" pA fA) : FnOk P w K mg base CX0 3 f fd ["one", "other"] (spQ (ISnd C)) := by
  obtain ⟨f1, fd1, G1, b1, k1, m1⟩ := D1.ex
  refine F.ok sc_snd (spQ_len (by rintro _ _ _ ⟨v1, v2, as, bs, rfl, _⟩; rfl)) (fun cdv A outer s H vs Q E hr h => ?_)
  obtain ⟨S, P0, fr, ⟨v1, v2, as, bs, rfl, q1, q2, l1, l2, rfl⟩, q⟩ := h
  refine ⟨_, PSs.nox (pss_cons (ps_set (i := 2) sc_snd.nd rfl (.inl rfl) (pe_lst (pa_cons (pe_tup (pa_cons pe_dnewK (pa_cons (pe_prop (pv 1) TQ.cl hA GA (hr.mono (by decide)) bA .nil pass0 rfl) pa_nil))) pa_nil)))
    (pss_cons (ps_for PassesOwn.never rfl (pi_tupQ (K := K) rfl (pe_prop (pv 0) TQ.cl hA GA (hr.mono (by decide)) bA .nil pass0 rfl)) (pg_name (i := 3) sc_snd.nd rfl (.inr rfl)) (pss_one
      (ps_setLc2 (i := 2) (own := [("sent", 4), ("rest", 5), ("at", 6), ("goal", 7)]) (vs1 := [6, 7]) (g := gTup K 2 (gCons (gName 4) (gCons (gName 5) gNil))) (g1 := gTup K 2 (gCons (gName 6) (gCons (gName 7) gNil))) (by rfl) sc_snd.nd rfl rfl (sw_true rfl rfl rfl (by decide +kernel)) (pi_listQ (K := K) rfl (pv 2))
        (blkOk_by (own := [("sent", 4), ("rest", 5), ("at", 6), ("goal", 7)]) (N := nSnd) (sc := defScope s_snd) (by decide +kernel)) (by decide)
        (fun _ _ _ _ _ => pg_tup (by rfl) (pgs_cons (pg_name (i := 4) sc_snd.nd rfl (Or.inl rfl)) (pgs_cons (pg_name (i := 5) sc_snd.nd rfl (Or.inl rfl)) pgs_nil))) (fun _ _ _ _ _ => pts_nil) (fun _ _ _ _ _ => pi_enT (K := K) rfl (by rfl) ge (pa_cons (pv 5) pa_nil))
        (fun _ _ _ _ _ => pg_tup (by rfl) (pgs_cons (pg_name (i := 6) sc_snd.nd rfl (Or.inl rfl)) (pgs_cons (pg_name (i := 7) sc_snd.nd rfl (Or.inl rfl)) pgs_nil)))
        (fun _ _ _ _ _ => pts_one (pt_val (pe_call G1 (hr.mono (by decide)) rfl m1 k1 b1 .nil pass0 (pa_cons (pv 4) (pa_cons (pv 3) (pa_cons (pv 7) pa_nil))))))
        (fun _ _ _ _ _ => pe_tup (pa_cons (pe_dispS (pv 4) (pps_cons (pe_ix (ix_tup : IxR _ (rIxT K)) (pv 3) pe_int (fun _ _ => rfl)) (pe_ix (ix_tup : IxR _ (rIxT K)) (pv 7) pe_int (fun _ _ => rfl)) (pps_cons (pe_ix (ix_tup : IxR _ (rIxT K)) (pv 3) pe_int (fun _ _ => rfl)) (pe_ix (ix_tup : IxR _ (rIxT K)) (pv 7) pe_int (fun _ _ => rfl)) pps_nil)) rfl rfl (by simp) (by decide))
          (pa_cons (pe_op (op_catA : OpR _ _ (rCatA K)) (pe_slice (sl_tupA : SlR _ (rSlA K)) (pv 5) po_none (po_some (pv 6))) (pe_slice (sl_tupA : SlR _ (rSlA K)) (pv 5) (po_some (pe_op op_add (pv 6) pe_int)) po_none)) pa_nil))))))
    (pss_one (ps_ret (pe_lc (own := [("sent", 4), ("rest", 5)]) (g := gTup K 2 (gCons (gName 4) (gCons (gName 5) gNil))) rfl sc_snd.nd (pi_listQ (K := K) rfl (pv 2)) (blkOk_by (own := [("sent", 4), ("rest", 5)]) (N := nSnd) (sc := defScope s_snd) (by decide +kernel))
      (fun _ _ _ _ _ => pg_tup (by rfl) (pgs_cons (pg_name (i := 4) sc_snd.nd rfl (Or.inl rfl)) (pgs_cons (pg_name (i := 5) sc_snd.nd rfl (Or.inl rfl)) pgs_nil))) (fun _ _ _ _ _ => pts_one (pt_cmpR op_eq (pe_callB (call_lenQ : CallR _ _ (rLenQ K)) (by rfl) T.len bLen (pa_cons (pv 5) pa_nil)) pe_int (nomark _))) (fun _ _ _ _ _ => pv 4)))))), ?_⟩
  refine go_setS (P := fun H v => Rp H v (.list ((snds (as.take 0) bs).map sndD))) fr (eqD (e_lst (a_cons (e_tup (a_cons e_dic (a_cons (e_prop (e_varP (P := QV C bs) rfl fun _ s => q2.mono s) qv_atoms) a_nil))) a_nil)) rfl) fun vF0 H1 s1 fr1 rF0 => ?_
  have q11 := q1.mono (offS_mono (S := S) s1)
  refine go_forTS (enc := atD) (as := as) fr1 (e_prop (e_varP (P := QV C as) rfl fun _ s => q11.mono s) qv_atoms) fun H2 s2 fr2 => ⟨fun i σ H' => ∃ vF x3 x4 x5 x6 x7, σ = [some v1, some v2, some vF, x3, x4, x5, x6, x7] ∧ Fr S H' ∧ Same H2 H' ∧ Rp (offS S H') vF (.list ((snds (as.take i) bs).map sndD)),
    ⟨vF0, none, none, none, none, none, rfl, fr2, Same.refl _, rF0.mono (offS_mono s2)⟩, ?_, ?_, ?_⟩
  · rintro i σ H' ⟨vF, x3, x4, x5, x6, x7, rfl, f', s', _⟩
    exact ⟨f', offS_mono s'⟩
  · rintro i a x σ H3 hi ra ⟨vF, x3, x4, x5, x6, x7, rfl, fr3, s3, rF⟩
    have li : i < as.length := (List.getElem?_eq_some_iff.mp hi).1
    have e1 : snds (as.take (i + 1)) bs = stepS a (snds (as.take i) bs) := by rw [take_more hi, snds_snoc]
    have e2 : ((snds (as.take i) bs).flatMap fun c => (c.2.zipIdx.filter fun p => agA c.1 a p.1).map fun p => sndD (nxS a c p.1 p.2)) = (snds (as.take (i + 1)) bs).map sndD := by
      rw [e1]
      unfold stepS
      rw [List.map_flatMap]
      congr 1
      funext c
      rw [List.map_map]
      rfl
    have lt : (as.take (i + 1)).length ≤ 4 := by rw [List.length_take]; omega
    have lt0 : (as.take i).length ≤ 4 := by rw [List.length_take]; omega
    refine go_set (P := fun H v => Rp H v (.list ((snds (as.take (i + 1)) bs).map sndD))) fr3 (eqD (e_lc2G (enc := sndD) (as := snds (as.take i) bs) (bs := fun c => c.2.zipIdx) (enc1 := enA) (c := fun c p => agA c.1 a p.1) (ev2 := fun c p => sndD (nxS a c p.1 p.2)) (it_list (e_var rfl rF)) ?_
      fun c hc y F1 sF1 rC => g_tup2 rC fun w4 w5 r4 r5 => ⟨rfl, b_yes, by rw [← enD_zip]; exact it_enumT (a_cons (e_var rfl r5) a_nil), fun p hp z F2 sF2 rP => g_tup2 rP fun w6 w7 r6 r7 => ⟨rfl, ?_, fun _ => ?_⟩⟩) (by rw [e2])) fun v4 H4 s4 fr4 r4 => ⟨v4, _, _, _, _, _, rfl, fr4, s3.trans s4, r4⟩
    · rw [e2, List.length_map]
      have := snds_24 lt l2
      omega
    · exact b_val (e_call (a_cons (e_var rfl (r4.mono sF2)) (a_cons (e_var rfl ((ra.mono sF1).mono sF2)) (a_cons (e_var rfl r7) a_nil))) ⟨c.1, a.k, a.l, a.r, p.1.k, p.1.l, p.1.r, [], rfl, rfl⟩)
    · have r42 := r4.mono sF2
      have r52 := r5.mono sF2
      have rA := (ra.mono sF1).mono sF2
      have ok := (snds_small _ (as.take i) bs rfl).2 c hc
      cases r6
      refine e_tup (a_cons (e_dispS (e_var rfl r42) (by omega) (e_ixT (n := 1) (e_var rfl rA) e_int rfl rfl) (e_ixT (n := 1) (e_var rfl r7) e_int rfl rfl) (e_ixT (n := 2) (e_var rfl rA) e_int rfl rfl) (e_ixT (n := 2) (e_var rfl r7) e_int rfl rfl)) (a_cons (eqD (e_catT (e_slT (e_var rfl r52) o_none (o_some (e_var rfl (.int _)))) (e_slT (e_var rfl r52) (o_some (e_add (e_var rfl (.int _)) e_int)) o_none) ?_) ?_) a_nil))
      · rw [cut_take, show ((p.2 : Int) + 1) = ((p.2 + 1 : Nat) : Int) from rfl, cut_drop, List.length_take, List.length_drop, List.length_map]
        omega
      · rw [cut_take, show ((p.2 : Int) + 1) = ((p.2 + 1 : Nat) : Int) from rfl, cut_drop, ← List.map_take, ← List.map_drop, ← List.map_append]
        rfl
  · rintro σ H3 ⟨vF, x3, x4, x5, x6, x7, rfl, fr3, s3, rF⟩
    rw [List.take_length] at rF
    refine go_ret (P := fun H v => Rp H v (.list ((fin as bs).map fun c => .dict (c.1.map iD)))) fr3 (e_lcL (enc := sndD) (as := snds as bs) (b := fun c => decide ((c.2.length : Int) = 0)) (ev := fun c => .dict (c.1.map iD)) (e_var rfl rF) ?_ fun c hc y F2 sF r => g_tup2 r fun w4 w5 r4 r5 => ⟨rfl, b_eq (b_test (e_eqI (e_lenT (e_var rfl r5)) e_int)) (by rw [List.length_map]), fun _ => e_var rfl r4⟩) fun v H4 s4 r4 => q v H4 (s1.trans (s2.trans (s3.trans s4))) r4
    · have := snds_24 l1 l2
      omega
end
end Q

set_option maxHeartbeats 4000000
namespace Q
open PySem PySem.Spec PyProof.Rows L2 Ca TQ
abbrev s_way : Stmt := top 47
theorem sc_way : FnScope ["chosen", "variables", "variable"] ["chosen", "variables"] (defScope s_way) := ⟨rfl, rfl, rfl, by decide +kernel, rfl, by decide +kernel, by decide +kernel⟩
section
variable {P : Program} {w : World} {K : PySem.W.Frag} {mg : PySem.Str → Option Value} {base : Heap}
theorem ok_way {f : Addr} {fd : FuncData} (F : FnP K "way_of" s_way f fd) (T : Tx K mg) : FnOk P w K mg base CX0 1 f fd ["chosen", "variables"] (spQ IWay) := by
  refine F.ok sc_way (spQ_len (by rintro _ _ _ ⟨ns, vs, v1, v2, rfl, _⟩; rfl)) (fun cdv A outer s H vs Q E hr h => ?_)
  obtain ⟨S, P0, fr, ⟨ns, vs, v0, v1, rfl, r0, r1, hz, hv, rfl⟩, q⟩ := h
  have hu1 := Nat.lt_of_le_of_lt (Nat.add_le_add_left (show 1 ≤ 64 by decide) _) hr.units
  refine ⟨_, PSs.nox (pss_one (ps_ret (pe_callTy (call_tupQ : CallR _ _ (rTupQ K)) (by rfl) T.tup bTup (pa_cons
      (pe_lc (own := [("variable", 2)]) (g := gName 2) rfl sc_way.nd (pi_tupQ (K := K) rfl (pv 1)) (blkOk_by (own := [("variable", 2)]) (N := ["chosen", "variables", "variable"]) (sc := defScope s_way) (by decide +kernel)) (fun _ _ _ _ _ => pg_name (i := 2) sc_way.nd rfl (Or.inl rfl)) (fun _ _ _ _ _ => pts_nil)
        (fun _ _ _ _ _ => pe_dget hu1 (pv 0) (pv 2) (fun _ _ => rfl))) pa_nil)))), ?_⟩
  refine go_ret (P := fun H v => Rp H v (tD (wayI ns vs))) fr (eqD (e_tupOf (e_lcTI (ns := vs) (b := fun _ => true) (ev := fun x => .int ((valI ns x).getD 0)) (e_varP rfl fun _ sm => r1.mono sm) (by omega) fun x hx y F2 sF r => g_name ⟨rfl, b_yes, fun _ => ?_⟩)) ?_) q
  · obtain ⟨v, e⟩ := hv x hx
    rw [e]
    exact e_dgetD (e_var rfl (r0.mono sF)) (e_var rfl r) e
  · rw [filter_yes]
    unfold wayI tD
    rw [List.map_map]
    rfl
end
end Q

set_option maxHeartbeats 4000000
namespace Q
open PySem PySem.Spec PyProof.Rows L2 Ca TQ GenW
abbrev s_acv : Stmt := top 50
theorem sc_acv : FnScope ["one", "other", "sent"] ["one", "other"] (defScope s_acv) := ⟨rfl, rfl, rfl, by decide +kernel, rfl, by decide +kernel, by decide +kernel⟩
section
variable {P : Program} {w : World} {K : PySem.W.Frag} {mg : PySem.Str → Option Value} {base : Heap}
theorem ok_acv {f C N pV fV : Addr} {fd fdV : FuncData} (F : FnP K "all_coverings" s_acv f fd) (T : Tx K mg) (TQ : QT K mg C N) (D1 : Fd P w K mg base "check_question" 1 ["thing"] (spQ (ICq C))) (D2 : Fd P w K mg base "sendings" 3 ["one", "other"] (spQ (ISnd C)))
    (D3 : Fd P w K mg base "way_of" 1 ["chosen", "variables"] (spQ IWay)) (GV : FnOk P w K mg base CX0 1 fV fdV ["self"] (spQ (IVars C))) (bV : Binds K fdV ["self"] []) (hV : PropOf K C "variables" pV fV) : FnOk P w K mg base CX0 5 f fd ["one", "other"] (spQ (ITwo C covD)) := by
  obtain ⟨f1, fd1, G1, b1, k1, m1⟩ := D1.ex
  obtain ⟨f2, fd2, G2, b2, k2, m2⟩ := D2.ex
  obtain ⟨f3, fd3, G3, b3, k3, m3⟩ := D3.ex
  refine F.ok sc_acv (spQ_len (by rintro _ _ _ ⟨v1, v2, as, bs, rfl, _⟩; rfl)) (fun cdv A outer s H vs Q E hr h => ?_)
  obtain ⟨S, P0, fr, ⟨v1, v2, as, bs, rfl, q1, q2, ga, gb, l0, l1, l2, rfl⟩, q⟩ := h
  have hu1 := Nat.lt_of_le_of_lt (Nat.add_le_add_left (show 1 ≤ 64 by decide) _) hr.units
  refine ⟨_, PSs.nox (pss_cons (ps_expr (pe_call G1 (hr.mono (by decide)) rfl m1 k1 b1 .nil pass0 (pa_cons (pv 0) pa_nil))) (pss_cons (ps_expr (pe_call G1 (hr.mono (by decide)) rfl m1 k1 b1 .nil pass0 (pa_cons (pv 1) pa_nil)))
    (pss_one (ps_ret (pe_callB (cr_sortedT rfl : CallR _ _ (rSortedT K P w)) (by rfl) T.sorted bSorted (pa_cons (pe_scT (own := [("sent", 2)]) (g := gName 2) hu1 rfl sc_acv.nd (pi_listQ (K := K) rfl (pe_call G2 (hr.mono (by decide)) rfl m2 k2 b2 .nil pass0 (pa_cons (pv 0) (pa_cons (pv 1) pa_nil))))
      (blkOk_by (own := [("sent", 2)]) (N := ["one", "other", "sent"]) (sc := defScope s_acv) (by decide +kernel)) (fun _ _ _ _ _ => pg_name (i := 2) sc_acv.nd rfl (Or.inl rfl)) (fun _ _ _ _ _ => pts_nil)
      (fun _ _ _ _ _ => pe_call G3 (hr.mono (by decide)) rfl m3 k3 b3 .nil pass0 (pa_cons (pv 2) (pa_cons (pe_prop (pv 0) TQ.cl hV GV (hr.mono (by decide)) bV .nil pass0 rfl) pa_nil)))) pa_nil)))))), ?_⟩
  refine (e_call1 (P := fun H v => Rp H v .none) (e_varP (P := QV C as) rfl fun _ s => q1.mono s) fun F v r => ⟨v, as, rfl, r, rfl⟩) S H fr (Same.refl _) _ fun _ H1 s1 _ => ?_
  have fr1 := fr.mono s1
  have q21 := q2.mono (offS_mono (S := S) s1)
  refine (e_call1 (P := fun H v => Rp H v .none) (e_varP (P := QV C bs) rfl fun _ s => q21.mono s) fun F v r => ⟨v, bs, rfl, r, rfl⟩) S H1 fr1 (Same.refl _) _ fun _ H2 s2 _ => ?_
  have fr2 := fr1.mono s2
  have q12 := q1.mono (offS_mono (S := S) (s1.trans s2))
  have q22 := q21.mono (offS_mono (S := S) s2)
  refine go_ret (te := tCB (rSortedT K P w) (tCons (tScT P w (iList K (tCall (spQ (ISnd C)) [] E0 (tCons (tVar 0) (tCons (tVar 1) tNil)))) (gName 2) tYes (tCall (spQ IWay) [] E0 (tCons (tVar 2) (tCons (tProp C (spQ (IVars C)) [] E0 (tVar 0)) tNil))) [2]) tNil)) (σ := [some v1, some v2, none]) (D := { nx := fun x H' => Q V.non H', rt := Q }) (P := fun H v => Rp H v (covD as bs)) fr2 (e_sortScT (enc := fun c : Snd => PyData.dict (c.1.map iD)) (as := fin as bs) (ev := fun c => wayI c.1 (nms as)) (n := (nms as).length) (it_list (fun S' H' f' s' Q' q' => ?_)) (by have := fin_small l1 l2; omega) (fun c hc y F2 sF r => g_name ⟨rfl, b_yes, fun _ => ?_⟩) (nms_ne l0) (fun c hc => ?_) (covs_up as bs) (covs_fin gb)) fun v H3 s3 r3 => q v H3 ((s1.trans s2).trans s3) r3
  · exact ⟨_, rfl, _, rfl, S', fun H v => Rp H v (.list ((fin as bs).map fun c => .dict (c.1.map iD))), f', ⟨_, _, as, bs, rfl, q12.mono s', q22.mono s', l1, l2, rfl⟩, fun v H'' s'' r => q' v H'' s'' r⟩
  · exact e_call2 (P0 := fun H v => Rp H v (.dict (c.1.map iD))) (P1 := FzI (nms as)) (e_var rfl r) (fun _ _ _ s h => h.mono s) (e_prop (e_varP (P := QV C as) rfl fun _ s => (q12.mono sF).mono s) qv_vars)
      fun F v u h1 h2 => ⟨c.1, nms as, v, u, rfl, h1, h2.ti, by have := nms_len as; omega, fin_known hc, rfl⟩
  · have m := (covs_fin gb _).mpr ⟨c, hc, rfl⟩
    exact ⟨by unfold wayI; rw [List.length_map], cov_bd gb ((mem_covs gb).mp m)⟩
end
end Q

set_option maxHeartbeats 4000000
namespace Q
open PySem PySem.Spec PyProof.Rows L2 Ca
abbrev s_lrows : Stmt := top 65
abbrev nRows : List PySem.Str := ["_law_source_here", "_law_most", "_law_values", "_law_found", "_law_turn", "_law_key", "_law_often"]
theorem sc_lrows : FnScope nRows ["_law_source_here", "_law_most", "_law_values"] (defScope s_lrows) := ⟨rfl, rfl, rfl, by decide +kernel, rfl, by decide +kernel, by decide +kernel⟩
section
variable {P : Program} {w : World} {K : PySem.W.Frag} {mg : PySem.Str → Option Value} {base : Heap}
theorem ok_lrows {f : Addr} {fd : FuncData} (F : FnP K "_law_rows" s_lrows f fd) (T : Tx K mg) (D1 : Fd P w K mg base "_law_draw" 1 ["_law_source_here", "_law_many"] spDraw) (D2 : Fd P w K mg base "_law_choose" 2 ["_law_source_here", "_law_values"] spChS)
    (D3 : Fd P w K mg base "_law_choose" 2 ["_law_source_here", "_law_values"] spChT) : FnOk P w K mg base CX0 3 f fd ["_law_source_here", "_law_most", "_law_values"] spRows := by
  obtain ⟨f1, fd1, G1, b1, k1, m1⟩ := D1.ex
  obtain ⟨f2, fd2, G2, b2, k2, m2⟩ := D2.ex
  obtain ⟨f3, fd3, G3, b3, k3, m3⟩ := D3.ex
  refine F.ok sc_lrows (fun vs H Q E h => ?_) (fun cdv A outer s0 H vs Q E hr h => ?_)
  · obtain ⟨S, s, m, vt, ns, u, rfl, _⟩ := h
    rfl
  obtain ⟨S, s, m, vt, ns, u, rfl, fr, hS, hc, m12, rt, l0, l1, u9, hn, q⟩ := h
  have hu : (A.deeper (envOfC "_law_rows" (defScope s_lrows) s0.heap.objs.size f cdv)).units + 1 < cLine := by
    have := hr.un
    omega
  refine ⟨_, PSs.nox (pss_cons (ps_set (i := 3) sc_lrows.nd rfl (.inl rfl) pe_dnewT)
    (pss_cons (ps_for PassesOwn.never rfl (pi_range1 rfl T.range (pa_cons (pe_call G1 (hr.mono (by decide)) rfl m1 k1 b1 .nil pass0 (pa_cons (pv 0) (pa_cons (pe_op op_add (pv 1) pe_int) pa_nil))) pa_nil)) (pg_name (i := 4) sc_lrows.nd rfl (.inl rfl))
      (pss_cons (ps_set (i := 5) sc_lrows.nd rfl (.inl rfl) (pe_tup (pa_cons (pe_call G2 (hr.mono (by decide)) rfl m2 k2 b2 .nil pass0 (pa_cons (pv 0) (pa_cons pe_str pa_nil))) (pa_cons (pe_call G3 (hr.mono (by decide)) rfl m3 k3 b3 .nil pass0 (pa_cons (pv 0) (pa_cons (pv 2) pa_nil))) (pa_cons (pe_call G3 (hr.mono (by decide)) rfl m3 k3 b3 .nil pass0 (pa_cons (pv 0) (pa_cons (pv 2) pa_nil))) pa_nil)))))
      (pss_one (ps_dput hu (pv 3) (pv 5) (pe_ix ix_list (pe_lst (pa_cons pe_int (pa_cons pe_int (pa_cons pe_int (pa_cons pe_int (pa_cons pe_int (pa_cons pe_int pa_nil))))))) (pe_call G1 (hr.mono (by decide)) rfl m1 k1 b1 .nil pass0 (pa_cons (pv 0) (pa_cons pe_int pa_nil))) (fun _ _ => rfl)) rfl))))
    (pss_one (ps_ret (pe_lock (pe_callB (cr_sortD T.sm hr : CallR _ _ rSortD) (by rfl) T.sorted bSorted (pa_cons (pe_lc (own := [("_law_key", 5), ("_law_often", 6)]) (g := gTup K 2 (gCons (gName 5) (gCons (gName 6) gNil))) rfl sc_lrows.nd (pi_itemsT (pv 3))
      (blkOk_by (own := [("_law_key", 5), ("_law_often", 6)]) (N := nRows) (sc := defScope s_lrows) (by decide +kernel)) (fun _ _ _ _ _ => pg_tup (by rfl) (pgs_cons (pg_name (i := 5) sc_lrows.nd rfl (Or.inl rfl)) (pgs_cons (pg_name (i := 6) sc_lrows.nd rfl (Or.inl rfl)) pgs_nil))) (fun _ _ _ _ _ => pts_nil)
      (fun _ _ _ _ _ => pe_op (op_catA : OpR _ _ (rCatA K)) (pv 5) (pe_tup (pa_cons (pv 6) pa_nil)))) pa_nil))))))), ?_⟩
  refine fun fo hfo => ?_
  have fs : fo ≠ s := fun z => by
    obtain ⟨x, y, c, e⟩ := hc
    rw [z, e] at hfo
    cases hfo
  have po : offS S H fo = none := by
    rw [offS_at (fr.new hfo)]
    exact hfo
  have s1 := same_new (o := .dT []) hfo
  have e1 : upd H fo (.dT []) fo = some (.dT []) := upd_same
  generalize upd H fo (.dT []) = H1 at s1 e1 ⊢
  have hS2 : addS S fo s = true := addS_s hS
  have fr1 : Fr (addS S fo) H1 := (fr.mono s1).add e1 trivial
  have ini : RInv u s fo H 0 H1 := ⟨.of s1, src_same hc s1, [], e1, Nat.le_refl _, (fun a h => by cases h), List.nodup_nil⟩
  have rt1 : Rp (offS (addS S fo) H1) vt (tiD ns) := rt.mono (addS_new po (offS_mono s1))
  refine go_forRK (s := s) (m := m) fr1 hS2 ini.src ((k_draw (m := (m : Int) + 1) rfl (e_add (e_var rfl (.int _)) e_int) (by omega) (by omega)).weak (P2 := IntP 0 (m : Int)) fun H v ⟨z, e, z0, z1⟩ => ⟨z, e, z0, by omega⟩) (by omega) fun n H2 hnm kp2 c2 fr2 =>
    ⟨fun i σ H' => ∃ x4 x5 x6, σ = [some (.ref s), some (.int m), some vt, some (.ref fo), x4, x5, x6] ∧ Fr (addS S fo) H' ∧ Rp (offS (addS S fo) H') vt (tiD ns) ∧ RInv u s fo H i H', ⟨none, none, none, rfl, fr2, rt1.mono (kp2.off hS2), ini.step fs kp2 c2⟩, ?_, ?_⟩
  · rintro i σ H5 hi ⟨x4, x5, x6, rfl, fr5, rt5, I5⟩
    refine go_setK (s := s) (P := TpP [KindP, IntP 0 u, IntP 0 u]) fr5 hS2 I5.src (k_tup (ka_cons (k_chS rfl (by decide +kernel) (by decide +kernel) (by decide +kernel)) mon_kind
      (ka_cons (k_chT rfl (e_var rfl rt5) l0 l1 hn) mon_int (ka_cons (k_chT rfl (e_var rfl rt5) l0 l1 hn) mon_int ka_nil))) (by simp [mon_kind, mon_int]) (by simp)) fun vy H6 kp6 c6 fr6 pkey => ?_
    have I6 := I5.step fs kp6 c6
    refine k_pick (K := K) (s := s) (n := 6) (P := IntP 1 10000) (F := offS (addS S fo) H6) (k_lst (P := IntP 1 10000) (ka_cons (k_int (lo := 1) (hi := 10000) (by omega) (by omega)) mon_int (ka_cons (k_int (lo := 1) (hi := 10000) (by omega) (by omega)) mon_int (ka_cons (k_int (lo := 1) (hi := 10000) (by omega) (by omega)) mon_int
      (ka_cons (k_int (lo := 1) (hi := 10000) (by omega) (by omega)) mon_int (ka_cons (k_int (lo := 1) (hi := 10000) (by omega) (by omega)) mon_int (ka_cons (k_int (lo := 1) (hi := 10000) (by omega) (by omega)) mon_int ka_nil)))))) mon_int (by simp) (by simp)) mon_int
      ((k_draw (m := 6) rfl e_int (by omega) (by omega)).weak fun H v ⟨z, e, z0, z1⟩ => ⟨z, e, z0, by omega⟩) (addS S fo) H6 fr6 hS2 c6 (Same.refl _) _ fun vn H7 kp7 c7 ⟨nn, en, n1, n9⟩ => ?_
    subst en
    have I7 := I6.step fs kp7 c7
    have fr7 := kp7.fr c7 fr6
    have rt7 := (rt5.mono (kp6.off hS2)).mono (kp7.off hS2)
    obtain ⟨t, ys, rfl, ht, ps⟩ := pkey
    cases ps with
    | cons h1 ps =>
      cases ps with
      | cons h2 ps =>
        cases ps with
        | cons h3 ps =>
          cases ps
          obtain ⟨k, rfl, hk⟩ := h1
          obtain ⟨l, rfl, l0', l9⟩ := h2
          obtain ⟨r, rfl, r0, r9⟩ := h3
          obtain ⟨ks, g1, g2, g3, g4⟩ := I7.rows
          obtain ⟨ls, e, hl, gl, nl⟩ := put_rows (Pr := GoodU u) ⟨k, l, r, nn⟩ ⟨⟨hk, l0', by show l ≤ 99; omega, r0, by show r ≤ 99; omega, n1, n9⟩, l9, r9⟩ g3 g4
          refine ⟨_, rfl, _, rfl, fo, _, rfl, DPut.t (k := roK ⟨k, l, r, nn⟩) g1 (offS_same _ _ (kp7.off hS2 _ _ ht)) (small1000 (by rw [List.length_map]; omega)), _, _, _, rfl, ?_, rt7.mono addS_upd, ⟨?_, ?_, ls, ?_, by omega, gl, nl⟩⟩
          · exact fun a ha => by
              by_cases e : a = fo
              · exact ⟨.dT (putK (ks.map kvO) (roK ⟨k, l, r, nn⟩) (.int nn)), by rw [e]; exact upd_same, trivial⟩
              · obtain ⟨o', e', m'⟩ := fr7 a ha
                exact ⟨o', by rw [upd_ne e]; exact e', m'⟩
          · intro b o' hb e
            have nb : b ≠ fo := fun z => by rw [z, hfo] at e; cases e
            rw [upd_ne nb]
            exact I7.kp b o' hb e
          · obtain ⟨x, y', c, e⟩ := c7
            exact ⟨x, y', c, by rw [upd_ne fs.symm]; exact e⟩
          · rw [← e]
            exact upd_same
  · rintro σ H5 ⟨x4, x5, x6, rfl, fr5, rt5, I5⟩
    obtain ⟨ks, g1, g2, g3, g4⟩ := I5.rows
    refine go_lockD (S := addS S fo) (dd := .list (srtD (ks.map roD))) fr5 (by simp [addS]) g1 (fun od F hF sF => e_sortD (eqD (e_lcG (enc := itD) (as := ks) (b := fun _ => true) (ev := roD) (it_itemsT (e_varP rfl fun _ _ => rfl) hF) (by omega) fun a ha x F2 s2 rx => g_tup2 rx fun v1 v2 r1 r2 => ⟨rfl, b_yes, fun _ => e_catT (e_var rfl r1) (e_tup (a_cons (e_var rfl r2) a_nil)) (by simp)⟩) (by rw [filter_yes])) (ros_alike ks) (ros_sortable ks) (fun d hd => ?_) (by rw [List.length_map]; omega)) fun v H6 s6 r6 => q v ks H6 (I5.kp.trans (.of s6)) (src_same I5.src s6) (r6.mono addS_off) (by omega) g3 g4
    obtain ⟨a, _, rfl⟩ := List.mem_map.mp hd
    exact ro_depth a
end
end Q

set_option maxHeartbeats 4000000
namespace Q
open PySem PySem.Spec PyProof.Rows L2 Ca
abbrev s_ltab : Stmt := top 66
abbrev nLtab : List PySem.Str := ["_law_rows_here", "_law_row", "_law_one"]
theorem sc_ltab : FnScope nLtab ["_law_rows_here"] (defScope s_ltab) := ⟨rfl, rfl, rfl, by decide +kernel, rfl, by decide +kernel, by decide +kernel⟩
section
variable {P : Program} {w : World} {K : PySem.W.Frag} {mg : PySem.Str → Option Value} {base : Heap}
theorem ok_ltab {f C pR gR : Addr} {fd : FuncData} (F : FnP K "_law_table" s_ltab f fd) (T : Tx K mg) (gC : mg "Table" = some (.ref C)) (cr : ClX.CRead K C (.type "type")) (cm : ClX.CMet K C (.type "type") "read" pR gR)
    (GR : FnR P w K mg base CX0 8 gR (spQ (ITRead C))) : FnOk P w K mg base CX0 9 f fd ["_law_rows_here"] (spQ (ILt C)) := by
  refine F.ok sc_ltab (spQ_len (by rintro _ _ _ ⟨v, ks, rfl, _⟩; rfl)) (fun cdv A outer s H vs Q E hr h => ?_)
  obtain ⟨S, P0, fr, ⟨v0, ks, rfl, r0, lk, g, hA, hs, rfl⟩, q⟩ := h
  refine ⟨_, PSs.nox (pss_one (ps_ret (ClX.pe_cmeth (pe_glob (v := .ref C) rfl gC rfl) cr cm GR hr pass0 (pa_cons
    (pe_joinQ (K := K) rfl pe_str (pe_lc (own := [("_law_row", 1)]) (g := gName 1) rfl sc_ltab.nd (pi_listQ (K := K) rfl (pv 0))
      (blkOk_by (own := [("_law_row", 1)]) (N := nLtab) (sc := defScope s_ltab) (by decide +kernel)) (fun _ _ _ _ _ => pg_name (i := 1) sc_ltab.nd rfl (Or.inl rfl)) (fun _ _ _ _ _ => pts_nil)
      (fun _ _ _ _ _ => pe_op op_add_str (pe_op op_add_str (pe_ix (ix_tup : IxR _ (rIxT K)) (pv 1) pe_int (fun _ _ => rfl)) (pe_joinQ (K := K) rfl pe_str (pe_lc (own := [("_law_one", 2)]) (g := gName 2) rfl sc_ltab.nd (pi_tupQ (K := K) rfl (pe_slice (sl_tupA : SlR _ (rSlA K)) (pv 1) (po_some pe_int) po_none))
        (blkOk_by (own := [("_law_one", 2)]) (N := nLtab) (sc := relS (lcSc (argE (argE (retE ((defBody s_ltab).getD 0 (.Pass ⟨0, 0, 0, 0⟩)))))) (defScope s_ltab)) (by decide +kernel)) (fun _ _ _ _ _ => pg_name (i := 2) sc_ltab.nd rfl (Or.inl rfl)) (fun _ _ _ _ _ => pts_nil)
        (fun _ _ _ _ _ => pe_op op_add_str pe_str (pe_callTy call_str_int (by rfl) T.str bStr (pa_cons (pv 2) pa_nil)))))) pe_str))) pa_nil)))), ?_⟩
  refine go_ret (P := TV C ks) fr (e_cmethT (fun S H1 f s Q q => q _ H1 (Same.refl _) rfl) (eqD (e_joinL e_str (e_lcL (enc := roD) (b := fun _ => true) (ev := fun a => .str (rowT a)) (as := ks) (e_var rfl r0) (by omega)
    fun a ha x F2 sF r => g_name ⟨rfl, b_yes, fun _ => eqD (e_addS (e_addS (e_ixT (n := 0) (e_var rfl r) e_int rfl rfl) (e_joinL e_str (e_lcT (enc := PyData.int) (as := parts a) (b := fun _ => true) (ev := fun i => .str (part i)) (eqD (e_slT (e_var rfl r) (o_some (e_int (i := ((1 : Nat) : Int)))) o_none) (by rw [cut_drop]; rfl)) (by show 3 ≤ 90000; decide)
      fun i hi x2 F3 sF3 r3 => g_name ⟨rfl, b_yes, fun _ => e_addS e_str (e_strI (e_var rfl r3) (log99 (parts_in (g a ha) i hi).1 (parts_in (g a ha) i hi).2)) ?_⟩) ?_ ?_) ?_) e_str ?_) ?_⟩) ?_ ?_) ?_) hA g lk hs) q
  · have := num5 (parts_in (g a ha) i hi).1 (parts_in (g a ha) i hi).2
    have e1 : (PySem.Str.ofString " ").length = 1 := by decide +kernel
    rw [e1]
    omega
  · intro d hd
    obtain ⟨e, _, rfl⟩ := List.mem_map.mp hd
    exact ⟨_, rfl⟩
  · rw [filter_yes]
    have b1 := part_len (parts_in (g a ha) a.l (by simp [parts])).1 (parts_in (g a ha) a.l (by simp [parts])).2
    have b2 := part_len (parts_in (g a ha) a.r (by simp [parts])).1 (parts_in (g a ha) a.r (by simp [parts])).2
    have b3 := part_len (parts_in (g a ha) a.n (by simp [parts])).1 (parts_in (g a ha) a.n (by simp [parts])).2
    have e1 : (PySem.Str.ofString "").length = 0 := by decide +kernel
    show ([part a.l, part a.r, part a.n].map (·.length)).sum + 3 * _ ≤ _
    simp only [List.map_cons, List.map_nil, List.sum_cons, List.sum_nil]
    rw [e1]
    omega
  · rw [filter_yes, row_mid]
    have := mid_len (g a ha)
    have := kind1 (g a ha).k
    omega
  · rw [filter_yes, row_mid]
    have := mid_len (g a ha)
    have := kind1 (g a ha).k
    have e1 : (PySem.Str.ofString "\n").length = 1 := by decide +kernel
    rw [e1, len_app]
    omega
  · rw [filter_yes, row_mid, row_txt]
  · intro d hd
    obtain ⟨e, _, rfl⟩ := List.mem_map.mp hd
    exact ⟨_, rfl⟩
  · rw [filter_yes, List.map_map (g := strD)]
    have e := rows_len g
    have e1 : (PySem.Str.ofString "").length = 0 := by decide +kernel
    show ((ks.map rowT).map (·.length)).sum + (ks.map rowT).length * _ ≤ _
    rw [e1]
    omega
  · rw [filter_yes, List.map_map]
    rfl
end
end Q


set_option maxHeartbeats 4000000
namespace Q
open PySem PySem.Spec PyProof.Rows L2 He Ca
theorem isi_ok {x : PySem.Str} {K : PySem.W.Frag} (h : isiB x K = true) : IsiC K (ga K x) := by
  obtain ⟨h1, h⟩ := ba h
  obtain ⟨h2, h⟩ := ba h
  obtain ⟨h3, h⟩ := ba h
  obtain ⟨h4, h5⟩ := ba h
  exact ⟨eqO_ok h1, eqO_ok h2, of_decide_eq_true h3, of_decide_eq_true h4, of_decide_eq_true h5⟩
end Q

set_option maxHeartbeats 400000
namespace Ca
open PySem PySem.Spec PyProof.Rows L2
/-! own ==, and the != that a class has from object: x an instance whose class has __eq__ as a def, y another one or data -/
structure OwnCmp (K : PySem.W.Frag) (C f : Addr) : Prop where
  has : PySem.W.findIn K (.ref C) "__eq__" = some (some (.ref f))
  fn : PySem.W.isFn K (.ref f) = true
  ne : PySem.W.findIn K (.ref C) "__ne__" = some (some (.builtin "object.__ne__"))
  obj : PySem.W.mroIn K C (.type "object") = some true
  other : ∀ T ∈ tyN, PySem.W.subIn K (.type T) (.ref C) = some false
theorem ne_bind (v : Value) : bindSpecial (.builtin "object.__ne__") v = pure (.builtin "object.__ne__", [v]) := Slot.bind (T := "object") (name := "__ne__") (Slot.of (owner := "object") (n := "__ne__")
  (by rw [typeLookup_type, builtinLookup_eq_fast]; kernel_rfl) (by decide +kernel) (by decide +kernel) (by decide +kernel) (.inl (by decide +kernel)) (by rw [isSubtype_type]; kernel_rfl)) v
theorem ne_plain : plainId "object.__ne__" = true := by decide +kernel
open PySem.W in
theorem bound_bi {M : Model} {A : Around} {E : Value → Shared → Prop} {s : Shared} {K : PySem.W.Frag} {x C : Addr} {ox : Obj} {od : Option Obj} {nm : PySem.Str} {id : String} {args : List Value} {Q : Option Value → Shared → Prop} (kin : K.In s.heap) (J : InstAt s.heap x ox C od)
    (hs : findIn K (.ref C) nm = some (some (.builtin id))) (hb : ∀ v, bindSpecial (.builtin id) v = pure (.builtin id, [v])) (h : wpAny M A (call (.builtin id) (.ref x :: args)) (fun v => Q (some v)) E s) : wpAny M A (callSpecialIfBound? (.ref x) nm args) Q E s := by
  have z : wpAny M A (call (.builtin id) ([.ref x] ++ args) >>= fun v => pure (some v)) Q E s := wpAny_bind (wpAny_mono h (fun v s' y => wpAny_pure y) fun _ _ y => y)
  simp only [callSpecialIfBound?, bindSpecialIfBound?, hb]
  refine wpAny_holding (wpAny_bind (wpAny_bind (wpAny_bind (J.type.here ((looks_findIn kin hs).here (wpAny_bind (wpAny_askSetting (wpAny_ite ?_))))))))
  simp only [hb]
  split
  · exact wpAny_bind (wpAny_pure (wpAny_pure z))
  · exact wpAny_tryCatch (wpAny_bind (wpAny_pure (wpAny_pure z)))
open PySem.W in
theorem own_ne {P : Program} {w : World} {A : Around} {E : Value → Shared → Prop} {s : Shared} {K : PySem.W.Frag} {x C f : Addr} {ox : Obj} {od : Option Obj} {b t : Value} {Q : Value → Shared → Prop} (hu : A.units + 1 < cLine) (kin : K.In s.heap) (J : InstAt s.heap x ox C od) (o : OwnCmp K C f)
    (lb : Looks (model P w) s.heap (typeOf b) t) (hn : notFirst K C t = true) (go : wpAny (model P w) A.in1 (call (.ref f) [.ref x, b]) (fun v s' => ∃ c, v = .bool c ∧ Q (.bool (!c)) s') E s) : wpAny (model P w) A (richCompare .NotEq (.ref x) b) Q E s := by
  have isO : Looks (model P w) s.heap (isInstance (.ref x) (.type "object")) true := J.type.andThen (looks_subIn kin (show subIn K (.ref C) (.type "object") = some true from o.obj))
  have one : wpAny (model P w) A (tryCompare (.ref x) "__ne__" b) (fun r s' => ∃ v, r = some v ∧ Q v s') E s := by
    unfold tryCompare
    refine wpAny_bind (bound_bi kin J o.ne ne_bind (wpAny_call (codeAny_call_builtin ne_plain PySem.F.cmpEntry_ne (check_slot PySem.F.cmpKind_ne PySem.F.cmpSplit_ne isO (PySem.F.cmpArgs_ne _ _) ?_))))
    unfold Builtin.«object.__ne__»
    repeat (first
      | with_reducible refine wpAny_cRoomFor hu ?_
      | (refine wpAny_bind (m := callSpecialIfBound? (.ref x) (PySem.Str.ofString "__eq__") [b]) (ifBound_K kin J o.has o.fn (wpAny_mono go (fun r s' hr => ?_) fun _ _ e => e)))
      | wp_step)
    obtain ⟨c, rfl, hq⟩ := hr
    refine wpAny_bind (m := truthy (.bool c)) (wpAny_truthy_bool ?_)
    exact wpAny_pure (show wpAny (model P w) A (pure (some (Value.bool !c))) (fun r s' => ∃ v, r = some v ∧ Q v s') E s' from wpAny_pure ⟨_, rfl, hq⟩)
  unfold richCompare
  simp only [oneThing_ref]
  refine wpAny_holding (wpAny_bind (wpAny_cRoomFor (Nat.lt_of_succ_lt hu) (wpAny_bind (J.type.here (wpAny_bind (lb.here ?_))))))
  have last : ∀ {k : Option Value → Sem Value}, (∀ v, k (some v) = pure v) → wpAny (model P w) A (tryCompare (.ref x) (cmpInfo .NotEq).2.1 b >>= k) Q E s := fun {k} hk => wpAny_bind (wpAny_mono one (fun r s' ⟨v, e, q⟩ => by rw [e, hk]; exact wpAny_pure q) fun _ _ y => y)
  split
  · rename_i ne
    have e : subIn K t (.ref C) = some false := by
      rcases Bool.or_eq_true_iff.mp hn with e | e
      · rw [beq_iff_eq.mp e] at ne
        simp at ne
      · exact beq_iff_eq.mp e
    refine wpAny_bind ((looks_subIn kin e).here ?_)
    simp only [Bool.false_eq_true, if_false]
    exact last fun v => rfl
  · refine wpAny_bind (wpAny_pure ?_)
    simp only [Bool.false_eq_true, if_false]
    exact last fun v => rfl
/-- x == y, x != y -/
def rCmpO (K : PySem.W.Frag) (C : Addr) (sp : Sp) (E : XK) (ne : Bool) : R2 := fun x y H Q => ∃ a dx fs t, x = .ref a ∧ H a = some (.ins C dx fs) ∧ TyX K H y t ∧ (t = .ref C ∨ ∃ T ∈ tyN, t = .type T) ∧ sp [x, y] H (fun v H' => ∃ c, v = .bl c ∧ Q (.bl (c != ne)) H') E
section
variable {X : Cx} {CX : CXT} {k : Nat} {f C : Addr} {fd : FuncData} {ps : List PySem.Str} {sp : Sp} {E : XK}
theorem not_first {K : PySem.W.Frag} {t : Value} (o : OwnCmp K C f) (h : t = .ref C ∨ ∃ T ∈ tyN, t = .type T) : PySem.W.notFirst K C t = true := by
  unfold PySem.W.notFirst
  rcases h with e | ⟨T, hT, e⟩
  · rw [e]
    simp
  · rw [e, o.other T hT]
    simp
theorem op_eqO (o : OwnCmp X.K C f) (F : FnOk X.prog X.w X.K X.mg X.base CX k f fd ps sp) (hb : Binds X.K fd ps []) (hr : Room k X.A) (hx : Passes CX X E) : OpR X (compareOp .Eq) (rCmpO X.K C sp E false) := by
  intro pins s σ H x y v u Q I rx ry h
  obtain ⟨a, dx, fs, t, rfl, ha, ty, ht, q⟩ := h
  cases (show v = Value.ref a from rx)
  obtain ⟨mA, O, _⟩ := ins_get I.hok ha
  obtain ⟨od, J, _⟩ := O.look
  obtain ⟨m, fr⟩ := I.fr
  obtain ⟨P, Z, p, _⟩ := kit_of I ry ty
  have lk := Z.ty (model X.prog X.w) s.heap I.kIn p
  refine PySem.W.cmp_K (op := .Eq) hr.units0 fr I.ok.mod.kin J lk (not_first o ht) o.has o.fn ?_
  refine wpAny_mono (run_fnS (E := fun _ => E) F hr hb (fun pins H s e s' I c => hx pins σ H s e s' I c) I (.cons rx (.cons ry .nil)) q) (fun r s' z => ?_) fun _ _ z => z
  obtain ⟨vv, H', J', rv, c, rfl, q'⟩ := z
  cases (show r = _ from rv)
  refine ⟨.bl c, H', J', rfl, ?_⟩
  rw [Bool.bne_false] at q'
  exact q'
theorem op_neO (o : OwnCmp X.K C f) (F : FnOk X.prog X.w X.K X.mg X.base CX0 k f fd ps sp) (hb : Binds X.K fd ps []) (hr : Room (k + 1) X.A) : OpR X (compareOp .NotEq) (rCmpO X.K C sp E0 true) := by
  intro pins s σ H x y v u Q I rx ry h
  obtain ⟨a, dx, fs, t, rfl, ha, ty, ht, q⟩ := h
  cases (show v = Value.ref a from rx)
  obtain ⟨mA, O, _⟩ := ins_get I.hok ha
  obtain ⟨od, J, _⟩ := O.look
  obtain ⟨P, Z, p, _⟩ := kit_of I ry ty
  have lk := Z.ty (model X.prog X.w) s.heap I.kIn p
  have r2 : Vals [.ref a, y] [.ref a, u] := .cons rx (.cons ry .nil)
  have hl : [Value.ref a, u].length = ps.length := by
    rw [← r2.length]
    exact F.len _ _ _ _ q
  refine own_ne (by have := hr.units; omega) I.kIn J o lk (not_first o ht) (wpAny_call (codeAny_mono (F.run X.A.in1 X.stack s H ⟨[.ref a, u], []⟩ [.ref a, u] [.ref a, y] _ E0 hr.in1 I.env0.in1 (hb s [.ref a, u] I.kIn (by rw [List.append_nil]; exact hl)) r2 q) fun r s' hq => ?_))
  cases r with
  | error e => exact False.elim hq
  | ok fl =>
    cases fl with
    | ret r =>
      obtain ⟨vv, H', J', rv, c, rfl, q'⟩ := I.after hq
      cases (show r = _ from rv)
      refine ⟨c, rfl, .bl (!c), H', J'.tok _, rfl, ?_⟩
      rw [Bool.bne_true] at q'
      exact q'
    | _ => exact False.elim hq
end
end Ca

set_option maxHeartbeats 400000
namespace Q
open PySem PySem.Spec PyProof.Rows L2 He Ca
/-! facts of classes that the kernel reads: isinstance of itself, instances called, own == -/
theorem isC1_ok {x : PySem.Str} {K : PySem.W.Frag} (h : isC1B x K = true) : IsC1 K (ga K x) := by
  obtain ⟨h1, h⟩ := ba h
  obtain ⟨h2, h⟩ := ba h
  obtain ⟨h3, h⟩ := ba h
  obtain ⟨h4, h5⟩ := ba h
  exact ⟨eqO_ok h1, eqO_ok h2, of_decide_eq_true h3, of_decide_eq_true h4, of_decide_eq_true h5⟩
theorem callO_ok {x : PySem.Str} {K : PySem.W.Frag} (h : callOB x K = true) : StX.CallO K (ga K x) (ma K (ga K x) "__call__") := by
  obtain ⟨h1, h⟩ := ba h
  obtain ⟨h2, h3⟩ := ba h
  exact ⟨eqO_ok h1, h2, h3⟩
theorem cmp_ok {x : PySem.Str} {K : PySem.W.Frag} (h : cmpB x K = true) : OwnCmp K (ga K x) (ma K (ga K x) "__eq__") := by
  obtain ⟨h1, h⟩ := ba h
  obtain ⟨h2, h⟩ := ba h
  obtain ⟨h3, h⟩ := ba h
  obtain ⟨h4, h5⟩ := ba h
  exact ⟨eqO_ok h1, h2, eqO_ok h3, of_decide_eq_true h4, fun T hT => of_decide_eq_true (List.all_eq_true.mp h5 T hT)⟩
theorem isK_ok {x : PySem.Str} {K : PySem.W.Frag} (h : isKB x K = true) : IsK K (ga K x) := by
  obtain ⟨h1, h⟩ := ba h
  obtain ⟨h2, h3⟩ := ba h
  exact ⟨isC1_ok h1, fun T hT => of_decide_eq_true (List.all_eq_true.mp h2 T hT), fun T hT => of_decide_eq_true (List.all_eq_true.mp h3 T hT)⟩
theorem len_ok {x : PySem.Str} {K : PySem.W.Frag} (h : lenB x K = true) : PySem.W.findIn K (.ref (ga K x)) "__len__" = some (some (.ref (ma K (ga K x) "__len__"))) ∧ PySem.W.isFn K (.ref (ma K (ga K x) "__len__")) = true := by
  obtain ⟨h1, h2⟩ := ba h
  exact ⟨eqO_ok h1, h2⟩
theorem op_ok {x : PySem.Str} {op : Operator} {K : PySem.W.Frag} (h : opB x op K = true) : OwnOp K (ga K x) (ma K (ga K x) (PySem.dunder op.info.2)) op := by
  obtain ⟨h1, h⟩ := ba h
  obtain ⟨h2, h⟩ := ba h
  obtain ⟨h3, h⟩ := ba h
  obtain ⟨h4, h5⟩ := ba h
  refine ⟨h1, eqO_ok h2, h3, eqO_ok h4, fun T hT => ?_⟩
  have z := List.all_eq_true.mp h5 T hT
  obtain ⟨z1, z⟩ := ba z
  obtain ⟨z2, z3⟩ := ba z
  exact ⟨Option.isSome_iff_exists.mp z1, Option.isSome_iff_exists.mp z2, of_decide_eq_true z3⟩
end Q

set_option maxHeartbeats 0
namespace Q
open PySem PySem.Spec PyProof.Rows L2 Ca
theorem facts {P : Program} {w : World} {K : PySem.W.Frag} {h : Heap} {mg : PySem.Str → Option Value} {f : Addr} (X : K.In h) (G : h.Ns mainGlobals mg) (hfa : mg ("law" : PySem.Str) = some (.ref f)) (c : SaysX fs fn K) :
    ∀ base : Heap, K.In base → base.Ns mainGlobals mg → FnG P w K mg base CX0 13 f (spLaw K) := by
  intro base _ _
  obtain ⟨fd_num, F_num⟩ := c.def_ 0 (d := df_num) rfl
  obtain ⟨fd_tri, F_tri⟩ := c.def_ 1 (d := df_tri) rfl
  obtain ⟨fd_are, F_are⟩ := c.def_ 2 (d := df_are) rfl
  obtain ⟨fd_vars, F_vars⟩ := c.def_ 3 (d := df_vars) rfl
  obtain ⟨fd_text, F_text⟩ := c.def_ 4 (d := df_text) rfl
  obtain ⟨fd_now, F_now⟩ := c.def_ 5 (d := df_now) rfl
  obtain ⟨fd_aow, F_aow⟩ := c.def_ 6 (d := df_aow) rfl
  obtain ⟨fd_init, F_init⟩ := c.def_ 7 (d := df_init) rfl
  obtain ⟨fd_read, F_read⟩ := c.def_ 8 (d := df_read) rfl
  obtain ⟨fd_qatoms, F_qatoms⟩ := c.def_ 9 (d := df_qatoms) rfl
  obtain ⟨fd_key, F_key⟩ := c.def_ 10 (d := df_key) rfl
  obtain ⟨fd_row, F_row⟩ := c.def_ 11 (d := df_row) rfl
  obtain ⟨fd_arr, F_arr⟩ := c.def_ 12 (d := df_arr) rfl
  obtain ⟨fd_txr, F_txr⟩ := c.def_ 13 (d := df_txr) rfl
  obtain ⟨fd_rol, F_rol⟩ := c.def_ 14 (d := df_rol) rfl
  obtain ⟨fd_tinit, F_tinit⟩ := c.def_ 15 (d := df_tinit) rfl
  obtain ⟨fd_tread, F_tread⟩ := c.def_ 16 (d := df_tread) rfl
  obtain ⟨fd_trows, F_trows⟩ := c.def_ 17 (d := df_trows) rfl
  obtain ⟨fd_ag, F_ag⟩ := c.def_ 18 (d := df_ag) rfl
  obtain ⟨fd_chs, F_chs⟩ := c.def_ 19 (d := df_chs) rfl
  obtain ⟨fd_cnt, F_cnt⟩ := c.def_ 20 (d := df_cnt) rfl
  obtain ⟨fd_ck, F_ck⟩ := c.def_ 21 (d := df_ck) rfl
  obtain ⟨fd_qcall, F_qcall⟩ := c.def_ 22 (d := df_qcall) rfl
  obtain ⟨fd_qvars, F_qvars⟩ := c.def_ 23 (d := df_qvars) rfl
  obtain ⟨fd_cq, F_cq⟩ := c.def_ 24 (d := df_cq) rfl
  obtain ⟨fd_way, F_way⟩ := c.def_ 25 (d := df_way) rfl
  obtain ⟨fd_snd, F_snd⟩ := c.def_ 26 (d := df_snd) rfl
  obtain ⟨fd_acv, F_acv⟩ := c.def_ 27 (d := df_acv) rfl
  obtain ⟨fd_cell, F_cell⟩ := c.def_ 28 (d := df_cell) rfl
  obtain ⟨fd_source, F_source⟩ := c.def_ 29 (d := df_source) rfl
  obtain ⟨fd_draw, F_draw⟩ := c.def_ 30 (d := df_draw) rfl
  obtain ⟨fd_choose, F_choose⟩ := c.def_ 31 (d := df_choose) rfl
  obtain ⟨fd_eq, F_eq⟩ := c.def_ 32 (d := df_eq) rfl
  obtain ⟨fd_law, F_law⟩ := c.def_ 33 (d := df_law) rfl
  obtain ⟨fd_some, F_some⟩ := c.def_ 34 (d := df_some) rfl
  obtain ⟨fd_lwords, F_lwords⟩ := c.def_ 35 (d := df_lwords) rfl
  obtain ⟨fd_lq, F_lq⟩ := c.def_ 36 (d := df_lq) rfl
  obtain ⟨fd_lrows, F_lrows⟩ := c.def_ 37 (d := df_lrows) rfl
  obtain ⟨fd_ltab, F_ltab⟩ := c.def_ 38 (d := df_ltab) rfl
  obtain ⟨fd_lnames, F_lnames⟩ := c.def_ 39 (d := df_lnames) rfl
  obtain ⟨fd_nrs, F_nrs⟩ := c.def_ 40 (d := df_nrs) rfl
  obtain ⟨fd_itv, F_itv⟩ := c.def_ 41 (d := df_itv) rfl
  obtain ⟨fd_scv, F_scv⟩ := c.def_ 42 (d := df_scv) rfl
  obtain ⟨fd_cvr, F_cvr⟩ := c.def_ 43 (d := df_cvr) rfl
  obtain ⟨fd_gcov, F_gcov⟩ := c.def_ 44 (d := df_gcov) rfl
  obtain ⟨fd_bhd, F_bhd⟩ := c.def_ 45 (d := df_bhd) rfl
  obtain ⟨fd_cts, F_cts⟩ := c.def_ 46 (d := df_cts) rfl
  obtain ⟨fd_rit, F_rit⟩ := c.def_ 47 (d := df_rit) rfl
  have e := hfa.symm.trans (He.glo_ok X G (c.fact 73 rfl))
  cases e
  have b_num : Binds K fd_num ["thing", "least", "most"] [] := F_num.bindsN fun _ _ _ _ _ _ us hl => match us, hl with | [_, _, _], _ => rfl
  have b_tri : Binds K fd_tri ["thing", "most"] [] := F_tri.bindsN fun _ _ _ _ _ _ us hl => match us, hl with | [_, _], _ => rfl
  have b_are : Binds K fd_are ["things"] [] := F_are.bindsN fun _ _ _ _ _ _ us hl => match us, hl with | [_], _ => rfl
  have b_vars : Binds K fd_vars ["atoms"] [] := F_vars.bindsN fun _ _ _ _ _ _ us hl => match us, hl with | [_], _ => rfl
  have b_text : Binds K fd_text ["atoms"] [] := F_text.bindsN fun _ _ _ _ _ _ us hl => match us, hl with | [_], _ => rfl
  have b_now : Binds K fd_now ["word"] [] := F_now.bindsN fun _ _ _ _ _ _ us hl => match us, hl with | [_], _ => rfl
  have b_aow : Binds K fd_aow ["word"] [] := F_aow.bindsN fun _ _ _ _ _ _ us hl => match us, hl with | [_], _ => rfl
  have b_read : Binds K fd_read ["cls", "text"] [] := F_read.bindsN fun _ _ _ _ _ _ us hl => match us, hl with | [_, _], _ => rfl
  have b_qatoms : Binds K fd_qatoms ["self"] [] := F_qatoms.bindsN fun _ _ _ _ _ _ us hl => match us, hl with | [_], _ => rfl
  have b_key : Binds K fd_key ["thing"] [] := F_key.bindsN fun _ _ _ _ _ _ us hl => match us, hl with | [_], _ => rfl
  have b_row : Binds K fd_row ["thing"] [] := F_row.bindsN fun _ _ _ _ _ _ us hl => match us, hl with | [_], _ => rfl
  have b_arr : Binds K fd_arr ["things"] [] := F_arr.bindsN fun _ _ _ _ _ _ us hl => match us, hl with | [_], _ => rfl
  have b_txr : Binds K fd_txr ["rows"] [] := F_txr.bindsN fun _ _ _ _ _ _ us hl => match us, hl with | [_], _ => rfl
  have b_rol : Binds K fd_rol ["line"] [] := F_rol.bindsN fun _ _ _ _ _ _ us hl => match us, hl with | [_], _ => rfl
  have b_tread : Binds K fd_tread ["cls", "text"] [] := F_tread.bindsN fun _ _ _ _ _ _ us hl => match us, hl with | [_, _], _ => rfl
  have b_trows : Binds K fd_trows ["self"] [] := F_trows.bindsN fun _ _ _ _ _ _ us hl => match us, hl with | [_], _ => rfl
  have b_ag : Binds K fd_ag ["chosen", "atom", "row"] [] := F_ag.bindsN fun _ _ _ _ _ _ us hl => match us, hl with | [_, _, _], _ => rfl
  have b_chs : Binds K fd_chs ["question", "table"] [] := F_chs.bindsN fun _ _ _ _ _ _ us hl => match us, hl with | [_, _], _ => rfl
  have b_cnt : Binds K fd_cnt ["question", "table"] [] := F_cnt.bindsN fun _ _ _ _ _ _ us hl => match us, hl with | [_, _], _ => rfl
  have b_ck : Binds K fd_ck ["thing"] [] := F_ck.bindsN fun _ _ _ _ _ _ us hl => match us, hl with | [_], _ => rfl
  have b_qcall : Binds K fd_qcall ["self", "table"] [] := F_qcall.bindsN fun _ _ _ _ _ _ us hl => match us, hl with | [_, _], _ => rfl
  have b_qvars : Binds K fd_qvars ["self"] [] := F_qvars.bindsN fun _ _ _ _ _ _ us hl => match us, hl with | [_], _ => rfl
  have b_cq : Binds K fd_cq ["thing"] [] := F_cq.bindsN fun _ _ _ _ _ _ us hl => match us, hl with | [_], _ => rfl
  have b_way : Binds K fd_way ["chosen", "variables"] [] := F_way.bindsN fun _ _ _ _ _ _ us hl => match us, hl with | [_, _], _ => rfl
  have b_snd : Binds K fd_snd ["one", "other"] [] := F_snd.bindsN fun _ _ _ _ _ _ us hl => match us, hl with | [_, _], _ => rfl
  have b_acv : Binds K fd_acv ["one", "other"] [] := F_acv.bindsN fun _ _ _ _ _ _ us hl => match us, hl with | [_, _], _ => rfl
  have b_cell : Binds K fd_cell ["_law_script", "_law_index"] [] := F_cell.bindsN fun _ _ _ _ _ _ us hl => match us, hl with | [_, _], _ => rfl
  have b_source : Binds K fd_source ["_law_cell_here"] [] := F_source.bindsN fun _ _ _ _ _ _ us hl => match us, hl with | [_], _ => rfl
  have b_draw : Binds K fd_draw ["_law_source_here", "_law_many"] [] := F_draw.bindsN fun _ _ _ _ _ _ us hl => match us, hl with | [_, _], _ => rfl
  have b_choose : Binds K fd_choose ["_law_source_here", "_law_values"] [] := F_choose.bindsN fun _ _ _ _ _ _ us hl => match us, hl with | [_, _], _ => rfl
  have b_eq : Binds K fd_eq ["_law_actual", "_law_expected"] [] := F_eq.bindsN fun _ _ _ _ _ _ us hl => match us, hl with | [_, _], _ => rfl
  have b_some : Binds K fd_some ["_law_source_here", "_law_most"] [] := F_some.bindsN fun _ _ _ _ _ _ us hl => match us, hl with | [_, _], _ => rfl
  have b_lwords : Binds K fd_lwords ["_law_atoms"] [] := F_lwords.bindsN fun _ _ _ _ _ _ us hl => match us, hl with | [_], _ => rfl
  have b_lq : Binds K fd_lq ["_law_atoms"] [] := F_lq.bindsN fun _ _ _ _ _ _ us hl => match us, hl with | [_], _ => rfl
  have b_lrows : Binds K fd_lrows ["_law_source_here", "_law_most", "_law_values"] [] := F_lrows.bindsN fun _ _ _ _ _ _ us hl => match us, hl with | [_, _, _], _ => rfl
  have b_ltab : Binds K fd_ltab ["_law_rows_here"] [] := F_ltab.bindsN fun _ _ _ _ _ _ us hl => match us, hl with | [_], _ => rfl
  have b_lnames : Binds K fd_lnames ["_law_atoms"] [] := F_lnames.bindsN fun _ _ _ _ _ _ us hl => match us, hl with | [_], _ => rfl
  have b_nrs : Binds K fd_nrs ["_law_source_here", "_law_atoms"] [] := F_nrs.bindsN fun _ _ _ _ _ _ us hl => match us, hl with | [_, _], _ => rfl
  have b_itv : Binds K fd_itv ["thing"] [] := F_itv.bindsN fun _ _ _ _ _ _ us hl => match us, hl with | [_], _ => rfl
  have b_scv : Binds K fd_scv ["one", "other", "thing"] [] := F_scv.bindsN fun _ _ _ _ _ _ us hl => match us, hl with | [_, _, _], _ => rfl
  have b_cvr : Binds K fd_cvr ["one", "other"] [] := F_cvr.bindsN fun _ _ _ _ _ _ us hl => match us, hl with | [_, _], _ => rfl
  have b_gcov : Binds K fd_gcov ["one", "other"] [] := F_gcov.bindsN fun _ _ _ _ _ _ us hl => match us, hl with | [_, _], _ => rfl
  have b_bhd : Binds K fd_bhd ["_law_first", "_law_second", "_law_names_here"] [] := F_bhd.bindsN fun _ _ _ _ _ _ us hl => match us, hl with | [_, _, _], _ => rfl
  have b_cts : Binds K fd_cts ["_law_one", "_law_other", "_law_tables"] [] := F_cts.bindsN fun _ _ _ _ _ _ us hl => match us, hl with | [_, _, _], _ => rfl
  have b_rit : Binds K fd_rit ["_law_first", "_law_second", "_law_third", "_law_tables"] [] := F_rit.bindsN fun _ _ _ _ _ _ us hl => match us, hl with | [_, _, _, _], _ => rfl
  have sK : ∀ H : Hp, SqT K H (He.ga K "KINDS") [.str "A", .str "B", .str "C"] := fun H => He.tupB_ok (c.fact 32 rfl) H
  have T : Tx K mg := {
    isi := (He.free_ok X G (c.fact 0 rfl)), int := (He.free_ok X G (c.fact 1 rfl)), bool := (He.free_ok X G (c.fact 2 rfl)), str := (He.free_ok X G (c.fact 3 rfl)), tup := (He.free_ok X G (c.fact 4 rfl)), lst := (He.free_ok X G (c.fact 5 rfl)), len := (He.free_ok X G (c.fact 6 rfl)), all := (He.free_ok X G (c.fact 7 rfl)),
    sorted := (He.free_ok X G (c.fact 8 rfl)), repr := (He.free_ok X G (c.fact 9 rfl)), max := (He.free_ok X G (c.fact 10 rfl)), min := (He.free_ok X G (c.fact 11 rfl)), range := (He.free_ok X G (c.fact 12 rfl)),
    kinds := ⟨_, (He.glo_ok X G (c.fact 27 rfl)), sK⟩, mAtoms := (He.int_ok X G (c.fact 34 rfl)), mVar := (He.int_ok X G (c.fact 35 rfl)), sm := Option.isSome_iff_exists.mp (c.fact 33 rfl) }
  obtain ⟨x1, x2, x3, x4⟩ := He.exc_ok (c.fact 36 rfl)
  have TQ : QT K mg (He.ga K "Question") (He.ga K "NoAtoms") := {
    cl := He.cls_ok (c.fact 37 rfl), nG := He.noat_ok (c.fact 38 rfl), nO := He.noat_ok (c.fact 39 rfl), nU := He.noat_ok (c.fact 40 rfl),
    gN := (He.glo_ok X G (c.fact 28 rfl)), xN := x1, kN := x2, bN := x3, tN := x4 }
  obtain ⟨y1, y2, y3, y4⟩ := He.exc_ok (c.fact 41 rfl)
  have TB : TT K mg (He.ga K "Table") (He.ga K "NoRows") := {
    cl := He.cls_ok (c.fact 42 rfl), nK := He.noat_ok (c.fact 43 rfl), gN := (He.glo_ok X G (c.fact 30 rfl)), xN := y1, kN := y2, bN := y3, tN := y4 }
  have M := He.mkr_ok (c.fact 44 rfl)
  have MT := He.mkr_ok (c.fact 45 rfl)
  have G_num := ok_num (P := P) (w := w) (mg := mg) (base := base) F_num T
  have G_tri := ok_tri (P := P) (w := w) (base := base) F_tri T F_num (He.glo_ok X G (c.fact 15 rfl))
  have G_are := ok_are (P := P) (w := w) (base := base) F_are T G_tri b_tri F_tri.kp (He.glo_ok X G (c.fact 16 rfl))
  have G_vars := ok_vars (P := P) (w := w) (mg := mg) (base := base) F_vars T
  have G_text := ok_text (P := P) (w := w) (mg := mg) (base := base) F_text T
  have G_init := ok_init (P := P) (w := w) (base := base) F_init T TQ G_are b_are F_are.kp (He.glo_ok X G (c.fact 17 rfl)) G_vars b_vars F_vars.kp (He.glo_ok X G (c.fact 18 rfl))
  have G_now := ok_now (P := P) (w := w) (mg := mg) (base := base) F_now T (He.int_ok X G (c.fact 46 rfl))
  have G_aow := ok_aow (P := P) (w := w) (base := base) F_aow G_now b_now F_now.kp (He.glo_ok X G (c.fact 20 rfl))
  have G_read := ok_read (P := P) (w := w) (base := base) F_read T M G_init G_aow b_aow F_aow.kp (He.glo_ok X G (c.fact 21 rfl)) G_are b_are F_are.kp (He.glo_ok X G (c.fact 17 rfl)) G_text b_text F_text.kp (He.glo_ok X G (c.fact 19 rfl))
  have G_qatoms := ok_atoms (P := P) (w := w) (base := base) F_qatoms TQ
  have cr := cr_ok (c.fact 47 rfl)
  have cm := cm_ok (c.fact 48 rfl)
  have GR : FnR P w K mg base CX0 6 _ (spQ (IRead (He.ga K "Question"))) := ((G_read.imp read_imp).raw b_read .nil).imp fun vs H Q E h => by rw [List.append_nil]; exact h
  have G_key := ok_key (P := P) (w := w) (base := base) F_key (He.int_ok X G (c.fact 49 rfl)) ⟨_, _, G_tri.imp tri_imp, b_tri, F_tri.kp, (He.glo_ok X G (c.fact 16 rfl))⟩
  have G_row := ok_row (P := P) (w := w) (base := base) F_row T (He.int_ok X G (c.fact 50 rfl)) ⟨_, _, G_key, b_key, F_key.kp, (He.glo_ok X G (c.fact 22 rfl))⟩ ⟨_, _, G_num.imp num_imp, b_num, F_num.kp, (He.glo_ok X G (c.fact 15 rfl))⟩
  have G_arrT := ok_rowsT (P := P) (w := w) (base := base) F_arr T (He.int_ok X G (c.fact 51 rfl)) ⟨_, _, G_row, b_row, F_row.kp, (He.glo_ok X G (c.fact 23 rfl))⟩
  have G_arrL := ok_rowsL (P := P) (w := w) (base := base) F_arr T (He.int_ok X G (c.fact 51 rfl)) ⟨_, _, G_row, b_row, F_row.kp, (He.glo_ok X G (c.fact 23 rfl))⟩
  have G_tinit := ok_tinit (P := P) (w := w) (base := base) F_tinit T TB ⟨_, _, G_arrT, b_arr, F_arr.kp, (He.glo_ok X G (c.fact 24 rfl))⟩
  have G_txrL := ok_txrL (P := P) (w := w) (mg := mg) (base := base) F_txr T
  have G_trows := ok_trows (P := P) (w := w) (base := base) F_trows TB
  have G_nowT := ok_nowT (P := P) (w := w) (mg := mg) (base := base) F_now T (He.int_ok X G (c.fact 46 rfl))
  have G_rol := ok_rol (P := P) (w := w) (base := base) F_rol T ⟨_, _, G_nowT.imp now_impT, b_now, F_now.kp, (He.glo_ok X G (c.fact 20 rfl))⟩
  have G_tread := ok_tread (P := P) (w := w) (base := base) F_tread T MT G_tinit ⟨_, _, G_rol, b_rol, F_rol.kp, (He.glo_ok X G (c.fact 26 rfl))⟩ ⟨_, _, G_arrL, b_arr, F_arr.kp, (He.glo_ok X G (c.fact 24 rfl))⟩ ⟨_, _, G_txrL, b_txr, F_txr.kp, (He.glo_ok X G (c.fact 25 rfl))⟩
  have crT := cr_ok (c.fact 52 rfl)
  have cmT := cm_ok (c.fact 53 rfl)
  have GRT : FnR P w K mg base CX0 8 _ (spQ (ITRead (He.ga K "Table"))) := (G_tread.raw b_tread .nil).imp fun vs H Q E h => by rw [List.append_nil]; exact h
  have hR := prop_ok (c.fact 54 rfl)
  have hA := prop_ok (c.fact 55 rfl)
  have G_ag := ok_ag (P := P) (w := w) (mg := mg) (base := base) F_ag
  have G_chs := ok_chs (P := P) (w := w) (base := base) F_chs TQ TB ⟨_, _, G_ag, b_ag, F_ag.kp, (He.glo_ok X G (c.fact 56 rfl))⟩ (G_qatoms.imp atoms_imp) b_qatoms hA G_trows b_trows hR
  have G_cnt := ok_cnt (P := P) (w := w) (base := base) F_cnt (He.free_ok X G (c.fact 14 rfl)) ⟨_, _, G_chs, b_chs, F_chs.kp, (He.glo_ok X G (c.fact 57 rfl))⟩
  have ic := isC1_ok (c.fact 60 rfl)
  have G_ck := ok_ck1 (P := P) (w := w) (base := base) F_ck T TB ic (He.glo_ok X G (c.fact 31 rfl))
  have G_qcall := ok_qcall (P := P) (w := w) (base := base) F_qcall ⟨_, _, G_ck, b_ck, F_ck.kp, (He.glo_ok X G (c.fact 59 rfl))⟩ ⟨_, _, G_cnt, b_cnt, F_cnt.kp, (He.glo_ok X G (c.fact 58 rfl))⟩
  have cO := callO_ok (c.fact 61 rfl)
  have icQ := isi_ok (c.fact 66 rfl)
  have G_qvars := ok_qvars (P := P) (w := w) (base := base) F_qvars TQ
  have G_cq := ok_cq (P := P) (w := w) (base := base) F_cq T TQ icQ (He.glo_ok X G (c.fact 29 rfl))
  have G_way := ok_way (P := P) (w := w) (mg := mg) (base := base) F_way T
  have hV := prop_ok (c.fact 67 rfl)
  have G_snd := ok_snd (P := P) (w := w) (base := base) F_snd T TQ (He.free_ok X G (c.fact 13 rfl)) ⟨_, _, G_ag, b_ag, F_ag.kp, (He.glo_ok X G (c.fact 56 rfl))⟩ (G_qatoms.imp atoms_imp) b_qatoms hA
  have G_acv := ok_acv (P := P) (w := w) (base := base) F_acv T TQ ⟨_, _, G_cq, b_cq, F_cq.kp, (He.glo_ok X G (c.fact 62 rfl))⟩ ⟨_, _, G_snd, b_snd, F_snd.kp, (He.glo_ok X G (c.fact 64 rfl))⟩ ⟨_, _, G_way, b_way, F_way.kp, (He.glo_ok X G (c.fact 63 rfl))⟩ G_qvars b_qvars hV
  have G_cell := ok_cell (P := P) (w := w) (mg := mg) (base := base) F_cell T
  have G_source := ok_source (P := P) (w := w) (mg := mg) (base := base) F_source T
  have G_draw := ok_draw (P := P) (w := w) (mg := mg) (base := base) F_draw
  have G_choose := ok_choose (P := P) (w := w) (base := base) F_choose T G_draw b_draw F_draw.kp (He.glo_ok X G (c.fact 70 rfl))
  have G_eq := ok_eq (P := P) (w := w) (mg := mg) (base := base) F_eq T
  have G_chT := ok_chT (P := P) (w := w) (base := base) F_choose T G_draw b_draw F_draw.kp (He.glo_ok X G (c.fact 70 rfl))
  have G_chS := ok_chS (P := P) (w := w) (base := base) F_choose T G_draw b_draw F_draw.kp (He.glo_ok X G (c.fact 70 rfl))
  have G_some := ok_some (P := P) (w := w) (base := base) F_some T G_draw b_draw F_draw.kp (He.glo_ok X G (c.fact 70 rfl)) G_choose G_chT G_chS b_choose F_choose.kp (He.glo_ok X G (c.fact 71 rfl))
  have G_lwords := ok_lwords (P := P) (w := w) (mg := mg) (base := base) F_lwords T
  have G_lq := ok_lq (P := P) (w := w) (base := base) F_lq (He.glo_ok X G (c.fact 29 rfl)) cr cm GR ⟨_, _, G_lwords, b_lwords, F_lwords.kp, (He.glo_ok X G (c.fact 75 rfl))⟩
  have G_lrows := ok_lrows (P := P) (w := w) (base := base) F_lrows T ⟨_, _, G_draw, b_draw, F_draw.kp, (He.glo_ok X G (c.fact 70 rfl))⟩ ⟨_, _, G_chS, b_choose, F_choose.kp, (He.glo_ok X G (c.fact 71 rfl))⟩ ⟨_, _, G_chT, b_choose, F_choose.kp, (He.glo_ok X G (c.fact 71 rfl))⟩
  have G_ltab := ok_ltab (P := P) (w := w) (base := base) F_ltab T (He.glo_ok X G (c.fact 31 rfl)) crT cmT GRT
  have G_lnames := ok_lnames (P := P) (w := w) (mg := mg) (base := base) F_lnames T
  have G_nrs := ok_nrs (P := P) (w := w) (base := base) F_nrs T ⟨_, _, G_draw, b_draw, F_draw.kp, (He.glo_ok X G (c.fact 70 rfl))⟩ ⟨_, _, G_lnames, b_lnames, F_lnames.kp, (He.glo_ok X G (c.fact 79 rfl))⟩ ⟨_, _, G_choose, b_choose, F_choose.kp, (He.glo_ok X G (c.fact 71 rfl))⟩ ⟨_, _, G_chS, b_choose, F_choose.kp, (He.glo_ok X G (c.fact 71 rfl))⟩
  have G_itv := ok_itvT (P := P) (w := w) (base := base) F_itv T ⟨_, _, G_num.imp num_imp, b_num, F_num.kp, (He.glo_ok X G (c.fact 15 rfl))⟩
  have G_scv := ok_scvT (N := 0) (P := P) (w := w) (base := base) F_scv T ⟨_, _, G_itv, b_itv, F_itv.kp, (He.glo_ok X G (c.fact 81 rfl))⟩ ⟨_, _, G_acv, b_acv, F_acv.kp, (He.glo_ok X G (c.fact 65 rfl))⟩
  have G_cvr := ok_cvr (P := P) (w := w) (base := base) F_cvr T ⟨_, _, G_acv, b_acv, F_acv.kp, (He.glo_ok X G (c.fact 65 rfl))⟩
  have G_gcov := ok_gcov (P := P) (w := w) (base := base) F_gcov T ⟨_, _, G_acv, b_acv, F_acv.kp, (He.glo_ok X G (c.fact 65 rfl))⟩
  have G_bhd := ok_bhd (P := P) (w := w) (mg := mg) (base := base) F_bhd T
  have G_cts := ok_cts (P := P) (w := w) (base := base) F_cts T TQ cO G_qcall b_qcall G_qvars b_qvars hV ⟨_, _, G_cvr, b_cvr, F_cvr.kp, (He.glo_ok X G (c.fact 83 rfl))⟩
  have G_rit := ok_rit (P := P) (w := w) (base := base) F_rit T TQ G_qvars b_qvars hV ⟨_, _, G_cvr, b_cvr, F_cvr.kp, (He.glo_ok X G (c.fact 83 rfl))⟩ ⟨_, _, G_scv, b_scv, F_scv.kp, (He.glo_ok X G (c.fact 82 rfl))⟩ ⟨_, _, G_cts, b_cts, F_cts.kp, (He.glo_ok X G (c.fact 86 rfl))⟩ ⟨_, _, G_bhd, b_bhd, F_bhd.kp, (He.glo_ok X G (c.fact 85 rfl))⟩ G_gcov F_gcov.kp b_gcov (He.glo_ok X G (c.fact 84 rfl))
  exact ok_law F_law T ⟨_, _, G_cell, b_cell, F_cell.kp, (He.glo_ok X G (c.fact 68 rfl))⟩ ⟨_, _, G_source, b_source, F_source.kp, (He.glo_ok X G (c.fact 69 rfl))⟩ ⟨_, _, G_draw, b_draw, F_draw.kp, (He.glo_ok X G (c.fact 70 rfl))⟩ ⟨_, _, G_some, b_some, F_some.kp, (He.glo_ok X G (c.fact 74 rfl))⟩ ⟨_, _, G_lq, b_lq, F_lq.kp, (He.glo_ok X G (c.fact 76 rfl))⟩ ⟨_, _, G_nrs, b_nrs, F_nrs.kp, (He.glo_ok X G (c.fact 80 rfl))⟩ ⟨_, _, G_lrows, b_lrows, F_lrows.kp, (He.glo_ok X G (c.fact 77 rfl))⟩ ⟨_, _, G_ltab, b_ltab, F_ltab.kp, (He.glo_ok X G (c.fact 78 rfl))⟩ ⟨_, _, G_rit, b_rit, F_rit.kp, (He.glo_ok X G (c.fact 87 rfl))⟩
end Q

set_option maxHeartbeats 0
open PySem PySem.W PySem.Calls PyProof.Rows
theorem PySem.Challenge.cw_countalike_k68_whole_coverings_never_cou_holds : PySem.Challenge.rw_countalike_k68_whole_coverings_never_cou.Holds := by
  w_on; o_law
  refine HandSHeadRun.head_any (r := OpenLaw.row PySem.Challenge.rw_countalike_k68_whole_coverings_never_cou) (q := view (OpenLaw.row PySem.Challenge.rw_countalike_k68_whole_coverings_never_cou).prog [71]) (H := Q.hk) (ob := Q.ob) (M := 30000) (loose := Q.nmL)
    (d := HandSHeadRun.topDef (OpenLaw.row PySem.Challenge.rw_countalike_k68_whole_coverings_never_cou).prog 71) (kwd := []) Q.ob_eq
    (by kernel_rfl) (fun s => by kernel_rfl) Q.run (by kernel_rfl) (by kernel_rfl) (by kernel_rfl) (by rfl) (by first | assumption | decide +kernel) (by decide +kernel) ⟨rfl, rfl, rfl, rfl, rfl, by decide +kernel⟩ ?hw ?hc
  case hw => w_witness2
  case hc =>
    refine Ca.walk_ofG (l := PySem.Challenge.rw_countalike_k68_whole_coverings_never_cou) (n := 63) (k := 13) rfl (by decide) (by kernel_rfl) ⟨rfl, by decide, by decide⟩ ?F
    intro w mg fa h Y G hmg0
    obtain ⟨K, KX, c⟩ := Y
    have hmg : mg ("law" : PySem.Str) = some (.ref fa) := by
      have e : (HandSHeadRun.topDef (OpenLaw.row PySem.Challenge.rw_countalike_k68_whole_coverings_never_cou).prog 71).name = ("law" : PySem.Str) := by kernel_rfl
      rw [← e]
      exact hmg0
    exact ⟨K, Q.spLaw K, KX, fun H a ns hl _ hS => ⟨a, ns, rfl, hS, hl, fun _ => rfl⟩, Q.facts KX G hmg c⟩

