import PyProof.Rows.All
import Wide.All
import OpenK.AllK
import Wide.FinOn
import HandS.ForMost
import HandS.Evl
import HandS.TupLe
import HandS.IsInst
import HandS.AnyAll
import HandS.EndOwn
import HandS.StrMore
import HandS.Conv
import HandS.Sort
import HandS.Star
import HandS.WordsExc
import HandS.ExcIs
import HandS.Wide
import HandS.ExcOwn
import HandS.TryOnly
import HandS.GenList
import HandS.HotCalls
import HandS.Walk
import PyProof.WalksPairs
import KE.GoesZip
import KE.GoesMore
import KE.KTurns
import KE.KUnpackStar
import HandS.More
import KE.KStateDown
import Lean
import HandS.Defaults
import HandS.Head0
import HandS.Head1
import HandS.Head2
import HandS.Head3
import HandS.HeadEnd
import HandS.HeadHook1
import HandS.HeadHook2
import HandS.HeadHook3
import HandS.HeadHook4
import HandS.HeadWalk
import HandS.Lambda
import HandS.EndTab
import PySem.Challenge.RW_laminae_k68_whole_torn_logs
set_option Elab.async false
set_option linter.all false
set_option maxRecDepth 100000
set_option maxHeartbeats 4000000
namespace LT
open PySem PySem.Spec PyProof.Rows L2 Evl
/-! ### the table of a code object: whatever it holds -/
def TabPhi (P : Addr) (h : Heap) : Prop := ∃ ps : Array Value, h.get? P = some { cls := .none, data := .fields ps } ∧ TriplesOk ps.toList
def Tab (H : Hp) (P : Addr) : Prop := H P = some (.ext (TabPhi P))
theorem tab_stab (P : Addr) : ∀ h1 h2 : Heap, TabPhi P h1 → (∀ o, h1.get? P = some o → h2.get? P = some o) → TabPhi P h2 := fun _ _ ⟨ps, e, t⟩ k => ⟨ps, k _ e, t⟩
theorem tab_ok {p : Program} {w : World} {H : Hp} {h : Heap} {P : Addr} (t : TabPhi P h) : ObjOk p w H h P (.ext (TabPhi P)) := ⟨t, ⟨_, t.choose_spec.1⟩, tab_stab P⟩
theorem Tab.of_ok {p : Program} {w : World} {H : Hp} {h : Heap} {P : Addr} (t : Tab H P) (ok : HOk p w H h) : TabPhi P h := (ok P _ t).1
theorem Tab.mono {H H' : Hp} {P : Addr} (e : Ex H H') (t : Tab H P) : Tab H' P := e _ _ t
open Classical in
def extH (Ps : List Addr) (H : Hp) : Hp := fun b => if b ∈ Ps then some (.ext (TabPhi b)) else H b
theorem extH_in {Ps : List Addr} {H : Hp} {b : Addr} (h : b ∈ Ps) : extH Ps H b = some (.ext (TabPhi b)) := if_pos h
theorem extH_out {Ps : List Addr} {H : Hp} {b : Addr} (h : b ∉ Ps) : extH Ps H b = H b := if_neg h
/-- a promise over heaps whose tables are opaque, for a caller whose tables are all empty -/
def spExt (Ps : List Addr) (sp : Sp) : Sp := fun vs H Q E => (∀ p ∈ Ps, H p = some (.tbl #[])) ∧ sp vs (extH Ps H) (fun v H' => (∀ p ∈ Ps, Tab H' p) ∧ ∀ H2, Q v H2) E
section
variable {P : Program} {w : World} {K : PySem.W.Frag} {mg : Str → Option Value} {base : Heap}
theorem ok_ext {Ps : List Addr} {k : Nat} {f : Addr} {fd : FuncData} {ps : List Str} {sp : Sp} (F : FnOk P w K mg base CX0 k f fd ps sp) : FnOk P w K mg base CX0 k f fd ps (spExt Ps sp) := by
  refine ⟨fun vs H Q E h => F.len _ _ _ _ h.2, fun A outer s H args us vs Q E hr e0 hb hv ⟨hT, hs⟩ => ?_⟩
  have none_ : ∀ {b : Addr}, H b = none → extH Ps H b = none := fun {b} n => by
    rw [extH_out fun hb => by rw [hT b hb] at n; cases n]
    exact n
  have same : ∀ {b : Addr} {u : HO}, H b = some u → (∀ q, u ≠ .tbl q) → extH Ps H b = some u := fun {b u} e n => by
    rw [extH_out fun hb => by rw [hT b hb] at e; exact n _ (Option.some.inj e).symm]
    exact e
  have ok1 : HOk P w (extH Ps H) s.heap := fun b u e => by
    by_cases hb : b ∈ Ps
    · rw [extH_in hb] at e
      cases e
      exact tab_ok ⟨#[], e0.hok b _ (hT b hb), by simp [TriplesOk]⟩
    · rw [extH_out hb] at e
      exact (e0.hok b u e).stay (fun _ _ _ q => q) (fun c q => same q (fun z y => by cases y)) fun c xs q => same q (fun z y => by cases y)
  have e1 : Env0 P w K mg base A outer s (extH Ps H) := ⟨e0.frames, e0.mod, fun b o e => ⟨(e0.bs b o e).1, none_ (e0.bs b o e).2⟩, e0.bsz, e0.funs, fun b hb => none_ (e0.frf b hb), ok1, e0.bare⟩
  refine codeAny_mono (F.run A outer s (extH Ps H) args us vs _ E hr e1 hb hv hs) fun r s' h => ?_
  cases r with
  | error e => exact h.elim
  | ok fl =>
    cases fl with
    | next => exact h
    | brk => exact h
    | cont => exact h
    | ret u =>
      obtain ⟨v, H', os, bare, un, ok', rv, hTab, q⟩ := h
      have more : ∀ p ∈ Ps, TabPhi p s'.heap := fun p hp => (hTab p hp).of_ok ok'
      let H2 : Hp := fun b => if hb : b ∈ Ps then some (.tbl (more b hb).choose) else H' b
      have hin : ∀ {b : Addr} (hb : b ∈ Ps), H2 b = some (.tbl (more b hb).choose) := fun {b} hb => dif_pos hb
      have hout : ∀ {b : Addr}, b ∉ Ps → H2 b = H' b := fun {b} hb => dif_neg hb
      have keepH : ∀ {b : Addr} {u : HO}, H' b = some u → (∀ φ, u ≠ .ext φ) → H2 b = some u := fun {b u} e n => by
        rw [hout fun hb => by rw [hTab b hb] at e; exact n _ (Option.some.inj e).symm]
        exact e
      refine ⟨v, H2, os, bare, ⟨fun b o e n => un.keep b o e (none_ n), fun b o e n => un.slot b o e (none_ n), fun b o e n hx => ?_, un.there, fun b xs e => ?_, fun b o x e => ?_, fun b q e => ?_⟩, fun b y e => ?_, rv, q H2⟩
      · have n' := none_ n
        rw [hout fun hb => by rw [hT b hb] at n; cases n]
        exact un.free b o e n' hx
      · exact keepH (un.tups b xs (same e (fun z y => by cases y))) (fun z y => by cases y)
      · exact keepH (un.frzs b o x (same e (fun z y => by cases y))) (fun z y => by cases y)
      · by_cases hb : b ∈ Ps
        · rw [hT b hb] at e
          cases e
          exact ⟨(more b hb).choose, by rw [hin hb, Array.empty_append]⟩
        · obtain ⟨m, z⟩ := un.tbls b q (by rw [extH_out hb]; exact e)
          exact ⟨m, by rw [hout hb]; exact z⟩
      · by_cases hb : b ∈ Ps
        · rw [hin hb] at e
          cases e
          exact (more b hb).choose_spec.1
        · rw [hout hb] at e
          exact (ok' b y e).stay (fun _ _ _ q => q) (fun c q => keepH q (fun z y => by cases y)) fun c xs q => keepH q (fun z y => by cases y)
end
/-- the law's walk where top-level defs (names) hold generator expressions: their tables are empty at the start -/
theorem walk_tabs {l : PySem.W.OpenLaw} {n k : Nat} {q : Program} {loose : List Str} {XP : (Str → Option Value) → Heap → Prop} {YP : World → Heap → Prop} {d : DefRec} {K : Params → PySem.W.Frag} {x : Str} (names : List Str)
    (hn : l.most = some n) (hn2 : n ≤ sizeLine) (hdf : d.params.defaults = []) (hr : Room k callerA) (hrec : ∀ y ∈ names, ((recsOf q).find? fun e => e.name == y).isSome = true) (hY : ∀ (w : World) (h : Heap), YP w h → (K w.params).In h)
    (F : ∀ (w : World) (mg : Str → Option Value) (fa : Addr) (h : Heap), (K w.params).In h → h.Ns mainGlobals mg → mg d.name = some (.ref fa) →
      ∃ (fd : FuncData) (cs : List (Str × Addr × Addr)) (sp : Sp), (∀ p ∈ cs, p.1 ∈ names ∧ PySem.W.tabIn (K w.params) p.1 = some p.2 ∧ (K w.params).lookup p.2.2 = none) ∧ (∀ (s : Shared) (u : Value), BindsTo s fd ⟨[u], []⟩ [(x, u)]) ∧
        (∀ (H : Hp) (a : Addr) (ns : List Int), ns.length ≤ n → (∀ p ∈ cs, Tab H p.2.2) → SqL (K w.params) H a (ns.map V.int) → ∀ Q : VK, (∀ H', Ex H H' → Q (.bl true) H') → sp [.ref a] H Q fun _ _ _ => False) ∧
        ∀ base : Heap, (K w.params).In base → base.Ns mainGlobals mg → (∀ p ∈ cs, LamX.TabB base mg p.2.1 p.2.2) → FnOk l.prog w (K w.params) mg base CX0 k fa fd [x] sp) :
    PySem.W.WalkO q loose XP YP l.row.toRowW d [] (fun f vs => PySem.call f vs) := by
  refine Att.attach_callB hn hdf fun w s₀ s₁ mg mb fa o pm cd doc a vs ns G Y ho hd hcd hmg hobj hints hlen hbits hg => ?_
  have KX := hY w _ Y
  obtain ⟨fd, cs, sp, hcs, hb, hsp, hF⟩ := F w mg fa _ KX G.T.g hmg
  have two : ∀ p ∈ cs, PySem.W.CodeHd s₁.heap p.2.1 p.2.2 ∧ s₁.heap.get? p.2.2 = some { cls := .none, data := .fields #[] } := fun p hp => by
    obtain ⟨h1, h2, _⟩ := hcs p hp
    obtain ⟨e, he⟩ := Option.isSome_iff_exists.mp (hrec _ h1)
    exact PySem.W.tab_of G.T KX he h2
  have mem : ∀ y ∈ cs.map (fun p => (p.2.1, p.2.2)), ∃ p ∈ cs, p.2 = y := fun y hy => by
    obtain ⟨p, hp, e⟩ := List.mem_map.mp hy
    exact ⟨p, hp, by rw [← e]⟩
  have lim : ∀ b ∈ cs.map (fun p => p.2.2), ∃ p ∈ cs, p.2.2 = b := fun b hb => by
    obtain ⟨p, hp, e⟩ := List.mem_map.mp hb
    exact ⟨p, hp, e⟩
  refine LamX.law_callTs (cs := cs.map fun p => (p.2.1, p.2.2)) (CX := CX0) (sp := spExt (cs.map fun p => p.2.2) sp) KX G.T.g G.T.b G.T.builtins G.T.nolimit hg (fun y hy => ?_) (fun y hy => ?_) (fun y hy => ?_) G.T.bmain hobj hints (Nat.le_trans hlen hn2) hr
    (fun base h1 h2 h3 => ok_ext (hF base h1 h2 fun p hp => h3 (p.2.1, p.2.2) (List.mem_map.mpr ⟨p, hp, rfl⟩))) hb (fun H hH hS => ?_) fun H e s' z => z
  · obtain ⟨p, hp, rfl⟩ := mem y hy
    exact (two p hp).2
  · obtain ⟨p, hp, rfl⟩ := mem y hy
    exact (hcs p hp).2.2
  · obtain ⟨p, hp, rfl⟩ := mem y hy
    exact (two p hp).1
  · refine ⟨fun b hb => ?_, ?_⟩
    · obtain ⟨p, hp, rfl⟩ := lim b hb
      exact hH (p.2.1, p.2.2) (List.mem_map.mpr ⟨p, hp, rfl⟩)
    · have hnt : ∀ p ∈ cs, extH (cs.map fun p => p.2.2) H p.2.2 = some (.ext (TabPhi p.2.2)) := fun p hp => extH_in (List.mem_map.mpr ⟨p, hp, rfl⟩)
      refine hsp _ a ns hlen hnt ?_ _ fun H' e => ⟨fun b hb => ?_, fun _ => rfl⟩
      · rcases hS with (h | ⟨o, h⟩) | h
        · refine .inl (.inl ?_)
          rw [extH_out fun hb => ?_]
          · exact h
          · obtain ⟨p, hp, rfl⟩ := lim a hb
            rw [hH (p.2.1, p.2.2) (List.mem_map.mpr ⟨p, hp, rfl⟩)] at h
            cases h
        · refine .inl (.inr ⟨o, ?_⟩)
          rw [extH_out fun hb => ?_]
          · exact h
          · obtain ⟨p, hp, rfl⟩ := lim a hb
            rw [hH (p.2.1, p.2.2) (List.mem_map.mpr ⟨p, hp, rfl⟩)] at h
            cases h
        · exact .inr h
      · obtain ⟨p, hp, rfl⟩ := lim b hb
        exact e _ _ (hnt p hp)
end LT

set_option Elab.async false
set_option linter.all false
set_option maxRecDepth 100000
set_option maxHeartbeats 4000000
namespace LG
open PySem PySem.Spec PyProof.Rows L2 Evl LT
/-! ### generator expressions whose elements leave everything as it stands -/
theorem kp_tok (s : Shared) (k : Nat) : Keeps s { s with toks := k } := ⟨s.heap, k, rfl, fun _ _ e => e⟩
theorem kp_refl (s : Shared) : Keeps s s := kp_tok s s.toks
theorem kp_trans {s s1 s2 : Shared} (a : Keeps s s1) (b : Keeps s1 s2) : Keeps s s2 := by
  obtain ⟨h1, t1, rfl, k1⟩ := a
  obtain ⟨h2, t2, rfl, k2⟩ := b
  exact ⟨h2, t2, rfl, fun c o e => k2 c o (k1 c o e)⟩
theorem kp_at {s s1 : Shared} (a : Keeps s s1) : ∀ b o, s.heap.get? b = some o → s1.heap.get? b = some o := by
  obtain ⟨h1, t1, rfl, k1⟩ := a
  exact k1
def but (P : Addr) (H : Hp) : Hp := fun b => if b = P then none else H b
theorem but_ne {P b : Addr} {H : Hp} (h : b ≠ P) : but P H b = H b := if_neg h
/-- in the frame of a generator expression, at one turn: its name x holds u -/
structure Fc (X : Cx) (σ : L2.St) (H : Hp) (P : Addr) (scope : Scope) (x : Str) (u : Value) (cenv : Env) (A' : Around) (s₂ : Shared) (m₂ : Str → Option Value) : Prop where
  hd : A'.handled = none
  dp : A'.depth ≤ X.A.depth + 1
  un : A'.units ≤ X.A.units + 8
  sc : cenv.scope = scope
  gl : cenv.globals = mainGlobals
  bi : cenv.builtins = builtinsNs
  ns : s₂.heap.Ns cenv.locals m₂
  mx : m₂ x = some u
  base : ∀ b o, X.base.get? b = some o → s₂.heap.get? b = some o
  md : L2.Mod X.K X.mg X.base
  hok : HOk X.prog X.w (but P H) s₂.heap
  cap : ∀ (i : Nat) (y : Str) (v : V), X.N[i]? = some y → σ[i]? = some (some v) → (X.env.kindOf y = some .cell ∨ X.env.kindOf y = some .free) → scope.names.lookup y = some .free → ∃ r c, RelV v r ∧ cenv.cells.lookup y = some c ∧ s₂.heap.IsCell c (some r)
section
variable {X : Cx} {σ : L2.St} {H : Hp} {P : Addr} {scope : Scope} {x : Str} {u : Value} {cenv : Env} {A' : Around} {s₂ s₃ : Shared} {m₂ : Str → Option Value}
theorem Fc.keeps (F : Fc X σ H P scope x u cenv A' s₂ m₂) (k : Keeps s₂ s₃) : Fc X σ H P scope x u cenv A' s₃ m₂ :=
  have k' := kp_at k
  ⟨F.hd, F.dp, F.un, F.sc, F.gl, F.bi, (let ⟨o, es, ep, e, r⟩ := F.ns; ⟨o, es, ep, k' _ _ e, r⟩), F.mx, fun b o e => k' b o (F.base b o e), F.md, F.hok.kept k', fun i y v h1 h2 h3 h4 => by
    obtain ⟨r, c, a1, a2, o, a3, a4⟩ := F.cap i y v h1 h2 h3 h4
    exact ⟨r, c, a1, a2, o, k' _ _ a3, a4⟩⟩
theorem Fc.kin (F : Fc X σ H P scope x u cenv A' s₂ m₂) : X.K.In s₂.heap := F.md.kin.keeps F.base
theorem Fc.list (F : Fc X σ H P scope x u cenv A' s₂ m₂) (hT : Tab H P) {a : Addr} {xs : List V} (h : SqL X.K H a xs) : ∃ its : List Value, Vals xs its ∧ PlainL s₂.heap a its.toArray ∧ xs.length ≤ sizeLine := by
  have rd : ∀ {o : HO}, H a = some o → (∀ φ, o ≠ .ext φ) → but P H a = some o := fun {o} e n => by
    rw [but_ne fun z => by rw [z, hT] at e; exact n _ (Option.some.inj e).symm]
    exact e
  rcases h with (h | ⟨o, h⟩) | ⟨o, its, n, hk, hc, hd, hs, hz, r⟩
  · obtain ⟨z, its, n, r, e⟩ := F.hok a _ (rd h (fun φ z => by cases z))
    exact ⟨its, r, ⟨_, n, e, rfl, rfl, rfl⟩, z⟩
  · obtain ⟨_, z, its, n, r, e⟩ := F.hok a _ (rd h (fun φ z => by cases z))
    exact ⟨its, r, ⟨_, n, e, rfl, rfl, rfl⟩, z⟩
  · refine ⟨its.toList, r, ⟨o, n, F.kin a o hk, hc, hd, by simpa using hs⟩, ?_⟩
    have e := r.length
    simp only [Array.length_toList] at e
    omega
theorem Fc.tuple (F : Fc X σ H P scope x u cenv A' s₂ m₂) (hT : Tab H P) {a : Addr} {xs : List V} (h : SqT X.K H a xs) : ∃ its : List Value, Vals xs its ∧ IsTup s₂.heap a its.toArray ∧ xs.length ≤ sizeLine := by
  have rd : ∀ {o : HO}, H a = some o → (∀ φ, o ≠ .ext φ) → but P H a = some o := fun {o} e n => by
    rw [but_ne fun z => by rw [z, hT] at e; exact n _ (Option.some.inj e).symm]
    exact e
  rcases h with (h | ⟨o, h⟩) | ⟨o, its, n, hk, hc, hs, hz, r⟩
  · obtain ⟨z, its, r, p⟩ := F.hok a _ (rd h (fun φ z => by cases z))
    exact ⟨its, r, p, z⟩
  · obtain ⟨_, z, its, r, p⟩ := F.hok a _ (rd h (fun φ z => by cases z))
    exact ⟨its, r, p, z⟩
  · refine ⟨its.toList, r, ⟨o, F.kin a o hk, hc, n, by simpa using hs⟩, ?_⟩
    have e := r.length
    simp only [Array.length_toList] at e
    omega
end
/-- the expression has the value z there -/
def QV (X : Cx) (σ : L2.St) (H : Hp) (P : Addr) (scope : Scope) (x : Str) (u : Value) (e : Expr) (z : V) : Prop :=
  ∀ (cenv : Env) (A' : Around) (E' : Value → Shared → Prop) (s₂ : Shared) (m₂ : Str → Option Value), Fc X σ H P scope x u cenv A' s₂ m₂ → wpAny (model X.prog X.w) A' (eval e cenv) (fun y s₃ => RelV z y ∧ Keeps s₂ s₃) E' s₂
section
variable {X : Cx} {σ : L2.St} {H : Hp} {P : Addr} {scope : Scope} {x : Str} {u : Value} {a b : Expr} {za zb z : V} {pos : Pos}
theorem qv_x (hk : scope.kind = .function) (hl : scope.names.lookup x = some .local) (r : RelV z u) (hd : (x == ("__debug__" : Str)) = false := by decide) : QV X σ H P scope x u (.Name x pos) z := fun cenv A' E' s m F =>
  wpAny_Name (wpAny_loadName_local (by rw [F.sc]; exact hk) (show cenv.scope.names.lookup x = some .local by rw [F.sc]; exact hl) F.ns F.mx ⟨r, kp_refl _⟩) hd
theorem qv_cap {i : Nat} {y : Str} (hk : scope.kind = .function) (hl : scope.names.lookup y = some .free) (hN : X.N[i]? = some y) (hs : σ[i]? = some (some z)) (hv : X.env.kindOf y = some .cell ∨ X.env.kindOf y = some .free := by first | exact Or.inl rfl | exact Or.inr rfl) (hd : (y == ("__debug__" : Str)) = false := by decide) (hcd : (y == ("__classdict__" : Str)) = false := by decide) :
    QV X σ H P scope x u (.Name y pos) z := fun cenv A' E' s m F => by
  obtain ⟨r, c, h1, h2, h3⟩ := F.cap i y z hN hs hv hl
  exact wpAny_Name (wpAny_loadName_free (by rw [F.sc]; exact hk) (show cenv.scope.names.lookup y = some .free by rw [F.sc]; exact hl) h2 h3 ⟨h1, kp_refl _⟩ hcd) hd
theorem qv_glob {y : Str} {r : Value} (hk : scope.kind = .function) (hl : scope.names.lookup y = some .globalImplicit) (hm : X.mg y = some r) (h : RelV z r) (hd : (y == ("__debug__" : Str)) = false := by decide) :
    QV X σ H P scope x u (.Name y pos) z := fun cenv A' E' s m F =>
  Calls.Name_function_global (by rw [F.sc]; exact hk) (show cenv.scope.names.lookup y = some .globalImplicit by rw [F.sc]; exact hl) (Calls.loadGlobal_global (by rw [F.gl]; exact F.md.glob.keeps F.base) hm ⟨h, kp_refl _⟩) hd
theorem qv_int {i : Int} {j : Nat} : QV X σ H P scope x u (.Constant (.int i) j pos) (.int i) := fun cenv A' E' s m F => wpAny_Constant_int ⟨⟨_, rfl⟩, kp_tok _ _⟩
theorem qv_str {i : Str} {j : Nat} : QV X σ H P scope x u (.Constant (.str i) j pos) (.str i) := fun cenv A' E' s m F => Calls.Constant_str ⟨⟨_, rfl⟩, kp_tok _ _⟩
/-- an operation on two values -/
def QR (X : Cx) (σ : L2.St) (H : Hp) (P : Addr) (scope : Scope) (x : Str) (u : Value) (f : Value → Value → Sem Value) (za zb z : V) : Prop :=
  ∀ (cenv : Env) (A' : Around) (E' : Value → Shared → Prop) (s₂ : Shared) (m₂ : Str → Option Value) (v w : Value), Fc X σ H P scope x u cenv A' s₂ m₂ → RelV za v → RelV zb w → wpAny (model X.prog X.w) A' (f v w) (fun y s₃ => RelV z y ∧ Keeps s₂ s₃) E' s₂
theorem qv_two {f : Value → Value → Sem Value} (ha : QV X σ H P scope x u a za) (hb : QV X σ H P scope x u b zb) (hr : QR X σ H P scope x u f za zb z) (cenv : Env) (A' : Around) (E' : Value → Shared → Prop) (s : Shared) (m : Str → Option Value) (F : Fc X σ H P scope x u cenv A' s m) :
    wpAny (model X.prog X.w) A' (eval a cenv) (fun v s₁ => wpAny (model X.prog X.w) A' (eval b cenv) (fun w s₂ => wpAny (model X.prog X.w) A' (f v w) (fun y s₃ => RelV z y ∧ Keeps s s₃) E' s₂) E' s₁) E' s :=
  wpAny_mono (ha cenv A' E' s m F) (fun v s1 r1 => wpAny_mono (hb cenv A' E' s1 m (F.keeps r1.2)) (fun w s2 r2 => wpAny_mono (hr cenv A' E' s2 m v w ((F.keeps r1.2).keeps r2.2) r1.1 r2.1)
    (fun y s3 r3 => ⟨r3.1, kp_trans (kp_trans r1.2 r2.2) r3.2⟩) fun _ _ e => e) fun _ _ e => e) fun _ _ e => e
theorem qv_cmp {op : CmpOp} (hr : QR X σ H P scope x u (compareOp op) za zb z) (ha : QV X σ H P scope x u a za) (hb : QV X σ H P scope x u b zb) (hm : behindInMarks op b = false) : QV X σ H P scope x u (.Compare a [op] [b] pos) z := fun cenv A' E' s m F =>
  wpAny_Compare1 (qv_two ha hb hr cenv A' E' s m F) hm
theorem qv_op {op : Operator} (hr : QR X σ H P scope x u (binaryOp op) za zb z) (ha : QV X σ H P scope x u a za) (hb : QV X σ H P scope x u b zb) : QV X σ H P scope x u (.BinOp a op b pos) z := fun cenv A' E' s m F =>
  wpAny_BinOp (qv_two ha hb hr cenv A' E' s m F)
theorem qv_ix (hr : ∀ value slice, subscripted slice false = subscripted slice false → QR X σ H P scope x u (fun v w => subscriptTail value slice v w) za zb z) (ha : QV X σ H P scope x u a za) (hb : QV X σ H P scope x u b zb) : QV X σ H P scope x u (.Subscript a b pos) z := fun cenv A' E' s m F =>
  Subscript_ (qv_two ha hb (hr a b rfl) cenv A' E' s m F)
theorem qr_add {i j : Int} : QR X σ H P scope x u (binaryOp .Add) (.int i) (.int j) (.int (i + j)) := fun cenv A' E' s m v w F r1 r2 => by
  obtain ⟨t, rfl⟩ := r1
  obtain ⟨t', rfl⟩ := r2
  exact add_int ⟨⟨_, rfl⟩, kp_tok _ _⟩
theorem qr_ne_int {i j : Int} : QR X σ H P scope x u (compareOp .NotEq) (.int i) (.int j) (.bl (i != j)) := fun cenv A' E' s m v w F r1 r2 => by
  obtain ⟨t, rfl⟩ := r1
  obtain ⟨t', rfl⟩ := r2
  exact ne_int ⟨rfl, kp_refl _⟩
theorem qr_le_int {i j : Int} : QR X σ H P scope x u (compareOp .LtE) (.int i) (.int j) (.bl (decide (i ≤ j))) := fun cenv A' E' s m v w F r1 r2 => by
  obtain ⟨t, rfl⟩ := r1
  obtain ⟨t', rfl⟩ := r2
  exact le_int ⟨rfl, kp_refl _⟩
theorem qr_ne_str {i j : Str} : QR X σ H P scope x u (compareOp .NotEq) (.str i) (.str j) (.bl (i.cps.toList != j.cps.toList)) := fun cenv A' E' s m v w F r1 r2 => by
  obtain ⟨t, rfl⟩ := r1
  obtain ⟨t', rfl⟩ := r2
  exact PySem.P.ne_str ⟨rfl, kp_refl _⟩
theorem qr_in_sign {c : Nat} {j : Str} : QR X σ H P scope x u (compareOp .In) (.str ⟨#[c]⟩) (.str j) (.bl (decide (c ∈ j.cps.toList))) := fun cenv A' E' s m v w F r1 r2 => by
  obtain ⟨t, rfl⟩ := r1
  obtain ⟨t', rfl⟩ := r2
  exact PyProof.Rows.in_str ⟨(PySem.StrLaws.found_one j c).symm ▸ rfl, kp_refl _⟩
end

/-! ### what is walked -/
def SrcV (K : PySem.W.Frag) (H : Hp) (v : V) (n : Nat) (xs : Nat → V) : Prop :=
  (∃ (a : Addr) (l : List V), v = .ref a ∧ SqL K H a l ∧ n = l.length ∧ ∀ i, xs i = l.getD i .non) ∨
  (∃ z : Str, v = .str z ∧ n = z.cps.size ∧ ∀ i c, z.cps[i]? = some c → xs i = .str ⟨#[c]⟩) ∨
  (∃ (a : Addr) (lo hi : Int), v = .ref a ∧ H a = some (.rng lo hi) ∧ n = (hi - lo).toNat ∧ -(2 ^ 62) ≤ lo ∧ lo < 2 ^ 62 ∧ -(2 ^ 62) ≤ hi ∧ hi < 2 ^ 62 ∧ ∀ i : Nat, xs i = .int (lo + i))
section
variable {X : Cx} {pins : List (Addr × Obj)} {σ : L2.St} {H : Hp} {s : Shared}
theorem src_iter {v : V} {xv : Value} {n : Nat} {xs : Nat → V} {P : Addr} {Q : Value → Shared → Prop} {E : Value → Shared → Prop} (S : SrcV X.K H v n xs) (I : Inv X pins σ H s) (r : RelV v xv) (hT : Tab H P)
    (h : ∀ (o : Obj) (fp : List Addr) (Pf : Nat → Value → Prop) (St : Nat → Heap → Prop), (∀ i u, Pf i u → i < n → RelV (xs i) u) → (∀ A' : Around, A'.handled = none → Walks X.prog X.w A' s.heap.objs.size fp [s.heap.objs.size] n Pf St) →
      St 0 (s.heap.push o) → (∀ b ∈ fp, b ≤ s.heap.objs.size ∧ b ≠ P) → Q (.ref s.heap.objs.size) { s with heap := s.heap.push o }) : wpAny (model X.prog X.w) X.A (pyIter xv) Q E s := by
  have Plt : P < s.heap.objs.size := Heap.lt_size (hT.of_ok I.hok).choose_spec.1
  have szP : s.heap.objs.size ≠ P := fun z => Nat.lt_irrefl _ (z ▸ Plt : s.heap.objs.size < s.heap.objs.size)
  rcases S with ⟨a, l, rfl, hl, rfl, hx⟩ | ⟨z, rfl, rfl, hx⟩ | ⟨a, lo, hi, rfl, ha, rfl, b1, b2, b3, b4, hx⟩
  · cases r
    obtain ⟨its, rv, pl, _⟩ := I.list hl
    have hal : a < s.heap.objs.size := let ⟨_, e, _⟩ := pl.isList; Heap.lt_size e
    have naP : a ≠ P := fun e => by
      obtain ⟨ps, e1, _⟩ := hT.of_ok I.hok
      obtain ⟨o, n, e2, e3, _, e4⟩ := pl
      rw [e, e1] at e2
      cases e2
      cases e3
    refine wpAny_pyIter_list pl.isList ?_
    have hne : a ≠ s.heap.objs.size := Nat.ne_of_lt hal
    have en : its.toArray.size = l.length := by rw [List.size_toArray]; exact rv.length.symm
    refine h _ [s.heap.objs.size, a] (fun i v => its.toArray[i]? = some v) (fun i h => h.IsListIter s.heap.objs.size a i ∧ h.IsList a its.toArray) (fun i u hu hi => ?_) (fun A' hA => by rw [← en]; exact Walks.list hA _ a hne its.toArray) ⟨⟨_, Heap.get?_push_size _ rfl, rfl, rfl⟩, pl.isList.at fun o e => Heap.get?_push_of_some _ e⟩ fun b hb => ?_
    · obtain ⟨w, ew, rw'⟩ := rv.get (List.getElem?_eq_getElem hi)
      have e2 : its.toArray[i]? = some w := by simpa using ew
      rw [e2] at hu
      cases hu
      rw [hx, List.getD_eq_getElem?_getD, List.getElem?_eq_getElem hi]
      exact rw'
    · rcases List.mem_cons.mp hb with e | hb
      · rw [e]
        exact ⟨Nat.le_refl _, szP⟩
      · rw [List.mem_singleton.mp hb]
        exact ⟨Nat.le_of_lt hal, naP⟩
  · obtain ⟨t, rfl⟩ := r
    refine wpAny_pyIter_str fun o St W hst => ?_
    refine h o [s.heap.objs.size] (SignAt z) St (fun i u hu hi => ?_) W hst fun b hb => ?_
    · obtain ⟨c, t', hc, rfl⟩ := hu
      rw [hx i c hc]
      exact ⟨_, rfl⟩
    · rw [List.mem_singleton.mp hb]
      exact ⟨Nat.le_refl _, szP⟩
  · cases r
    obtain ⟨t, t1, t2, e⟩ := I.hok a _ ha
    refine wpAny_pyIter_range (a := lo) (b := hi) (c := 1) e (small_one b1 b2 b3 b4) ?_
    have en : ((Builtin.Range.rangeSize lo hi 1 : Int)) = (((hi - lo).toNat : Nat) : Int) := by
      unfold Builtin.Range.rangeSize
      simp
      omega
    refine h _ [s.heap.objs.size] (fun i v => ∃ t, v = .int (lo + i * 1) t) _ (fun i u hu hi => ?_) (fun A' hA => Walks.range hA _ lo 1 _) ?_ fun b hb => ?_
    · obtain ⟨t, rfl⟩ := hu
      rw [hx]
      exact ⟨t, by rw [Int.mul_one]⟩
    · rw [en]
      show IsRangeIter _ _ (lo + ((0 : Nat) : Int) * 1) ((((hi - lo).toNat : Nat) : Int) - ((0 : Nat) : Int)) 1
      rw [show lo + ((0 : Nat) : Int) * 1 = lo by simp, show (((hi - lo).toNat : Nat) : Int) - ((0 : Nat) : Int) = (((hi - lo).toNat : Nat) : Int) by simp]
      exact Heap.get?_push_size _ rfl
    · rw [List.mem_singleton.mp hb]
      exact ⟨Nat.le_refl _, szP⟩
end
theorem lookup_mem' {α : Type} : ∀ {l : List (Str × α)} {n : Str} {c : α}, l.lookup n = some c → (n, c) ∈ l
  | [], _, _, h => by cases h
  | (k, v) :: r, n, c, h => by
    rw [List.lookup_cons] at h
    cases hb : n == k with
    | true =>
      rw [hb] at h
      cases h
      rw [beq_iff_eq.mp hb]
      exact List.mem_cons_self
    | false =>
      rw [hb] at h
      exact List.mem_cons_of_mem _ (lookup_mem' h)
theorem walks_lt {prog : Program} {w : World} {A : Around} {I : Addr} {fp wr : List Addr} {n : Nat} {Pf : Nat → Value → Prop} {St : Nat → Heap → Prop} (W : Walks prog w A I fp wr n Pf St) : Walks prog w A I fp wr n (fun i u => i < n ∧ Pf i u) St where
  sub := W.sub
  frame := W.frame
  item := fun i s Q E hi st hQ => W.item i s Q E hi st fun v h' tk hp => hQ v h' tk ⟨hi, hp⟩
  done := W.done
  self := W.self
theorem clo_lookup {cells : List (Str × Addr)} {names : List (Str × NameKind)} {y : Str} {c : Addr} (hy : (y, NameKind.free) ∈ names) (hc : cells.lookup y = some c) : (cloFrom cells names []).lookup y = some c := by
  obtain ⟨c', h⟩ := mem_lookup (cloFrom_has (cells := cells) (acc := []) hy)
  rcases cloFrom_mem (lookup_mem' h) with z | ⟨_, z⟩
  · cases z
  · rw [h, z, hc]
    rfl
section
variable {X : Cx} {pins : List (Addr × Obj)} {σ : L2.St} {H : Hp} {s : Shared}
/-- the table has grown: nothing that is tracked changes -/
theorem inv_grown {P : Addr} {s' : Shared} (I : Inv X pins σ H s) (hT : Tab H P) (k : ∀ b o, b ≠ P → s.heap.get? b = some o → s'.heap.get? b = some o) (hP : TabPhi P s'.heap) (ho : s'.os = s.os) (hg : AllBare s'.gens) : Inv X pins σ H s' := by
  have nN : ∀ b, H b = none → b ≠ P := fun b e z => by
    rw [z, hT] at e
    cases e
  have J := I.step (h' := s'.heap) (H' := H) (g' := s'.gens) (t' := s'.toks) (d' := s'.drawn) (ch := []) (fun b hb => absurd hb (by simp)) (fun b o _ _ _ e n => k b o (nN b n) e) (fun b o _ _ _ e n => ⟨o.slots, k b o (nN b n) e⟩) (fun b o _ _ n => n)
    (fun b o _ e => by
      by_cases hb : b = P
      · rw [hb]
        exact ⟨_, hP.choose_spec.1⟩
      · exact ⟨o, k b o hb e⟩)
    (fun b xs e => e) (fun b o u e => e) (fun b ps e => ⟨#[], by rw [e]; simp⟩) (fun m ⟨ob, es, ep, e, r⟩ => ⟨ob, es, ep, k _ ob (nN _ I.free) e, r⟩)
    (fun b u e => by
      by_cases hb : b = P
      · subst hb
        rw [hT] at e
        cases e
        exact tab_ok hP
      · refine (I.hok b u e).stay (fun d v hd q => k d v ?_ q) (fun d q => q) fun d xs q => q
        rcases hd with z | z
        · rw [z]
          exact hb
        · intro e2
          rw [e2, hT] at z
          cases z) hg
  have e : ({ s with heap := s'.heap, gens := s'.gens, drawn := s'.drawn, toks := s'.toks } : Shared) = s' := by
    cases s'
    cases ho
    rfl
  rw [e] at J
  exact J
/-- the generator g, ready to be walked -/
def RdyG (X : Cx) (pins : List (Addr × Obj)) (σ : L2.St) (H : Hp) (n : Nat) (f : Nat → Bool) (g : Addr) (s5 : Shared) : Prop :=
  ∃ (fp wr : List Addr) (G : Array GenState → Array GenState → Prop) (F : Nat → Value → Prop) (St : Nat → Shared → Prop), WalksS X.prog X.w X.A.in1 g fp wr G n F St ∧ St 0 s5 ∧ TruthOf X.prog X.w X.A.in1 F f ∧ ∀ s', Moved wr G s5 s' → Inv X pins σ H s'
theorem gen_make {c P : Addr} {elt iter : Expr} {x : Str} {px gpos : Pos} {scope : Scope} {te : TE} {k : Nat} {Q' : Value → Shared → Prop} {R : Nat → (Nat → Bool) → Hp → Prop}
    (hr : Room k X.A) (TB : LamX.TabB X.base X.mg c P) (hcode : X.env.code = .ref c) (S : GxR.GenS X.env scope x) (hi : PE X iter te) (hs : ∀ v, genFold iter X.env v = pure v) (I : Inv X pins σ H s)
    (h : te σ H fun v H1 => Tab H1 P ∧ ∃ (n : Nat) (xs : Nat → V) (f : Nat → Bool), SrcV X.K H1 v n xs ∧ (∀ i u, i < n → RelV (xs i) u → QV X σ H1 P scope x u elt (.bl (f i))) ∧ R n f H1)
    (hQ : ∀ n f H1 g s5, R n f H1 → RdyG X pins σ H1 n f g s5 → Q' (.ref g) s5) :
    wpAny (model X.prog X.w) X.A (eval (.GeneratorExp elt [⟨.Name x px, iter, [], 0⟩] scope gpos) X.env) Q' X.xe s := by
  refine wpAny_GeneratorExp_walksQD hr.hd S.co (closure_ok S.free) S.cell S.dot S.loc S.kind hr.depth ?_ hs
  refine thn (hi.run pins s σ H _ I h) fun xv s1 ⟨v, H1, I1, r1, hT, n, xs, f, hsrc, hel, hR⟩ => ?_
  refine src_iter hsrc I1 r1 hT fun o fp Pf St hPf hW hst hfp => ?_
  obtain ⟨ps, hPs, ht⟩ := hT.of_ok I1.hok
  have hPlt : P < s1.heap.objs.size := Heap.lt_size hPs
  have hP2 : (s1.heap.push o).get? P = some { cls := .none, data := .fields ps } := Heap.get?_push_of_some _ hPs
  have cd : PySem.W.CodeHd (s1.heap.push o) c P := TB.code.keeps fun b u e => Heap.get?_push_of_some _ (I1.bk b u e)
  have lim2 : (s1.heap.push o).NoLimit := I1.nolimit.push o
  have hcP : cStatics ≠ P := fun e => by
    obtain ⟨_, ⟨o', es, ep, ho, hd, _⟩, _⟩ := I1.nolimit
    rw [e, hPs] at ho
    cases ho
    cases hd
  have hcl : cStatics < s1.heap.objs.size := let ⟨_, hns, _⟩ := I1.nolimit; hns.lt
  have sz2 : (s1.heap.push o).objs.size = s1.heap.objs.size + 1 := Heap.size_push ..
  have nTb : ∀ b, H1 b = none → b ≠ P := fun b e z => by
    rw [z, hT] at e
    cases e
  -- what is left once the code object is known
  have go : ∀ (code : Value) (h3 : Heap) (tk : Nat) (ps' : Array Value), Heap.ExtBut P (s1.heap.push o) h3 → (s1.heap.push o).objs.size ≤ h3.objs.size → h3.get? P = some { cls := .none, data := .fields ps' } → TriplesOk ps'.toList →
      wpAny (model X.prog X.w) X.A (builtinsFor X.env.globals X.env.builtins) (fun bi s₄ => ∃ I fp wr n₀ Pg St₀ pz F, Value.ref s1.heap.objs.size = .ref I ∧ (∀ A' : Around, A'.handled = none → Walks X.prog X.w A' I fp wr n₀ Pg St₀) ∧ St₀ 0 s₄.heap ∧ (∀ b ∈ fp, b < s₄.heap.objs.size) ∧ s₄.heap.NoLimit ∧ cStatics ∉ wr ∧
          (∀ href : Heap, (∀ b o, s₄.heap.get? b = some o → href.get? b = some o) → QuietGenD X.prog X.w (genEnv scope (cloFrom X.env.cells scope.names []) s₄.heap.objs.size code bi X.env) x [] elt (List.range s₄.heap.objs.size) wr Pg pz F href (X.A.depth + 1) (X.A.units + 8)) ∧
          (∀ a h₅ tk gs, gs.bare = true → s₄.heap.objs.size < a → h₅.objs.size = a + 1 → (∀ b o, s₄.heap.get? b = some o → h₅.get? b = some o) →
            WalksS X.prog X.w X.A.in4 a (a :: s₄.heap.objs.size :: List.range s₄.heap.objs.size) (s₄.heap.objs.size :: wr) (GenOnlyQ s₄.gens.size) (passing pz n₀ 0).length (fun j y => ∃ i, (passing pz n₀ 0)[j]? = some i ∧ F i y) (GenAt X.prog X.w X.A.in4 a s₄.gens.size s₄.heap.objs.size (List.range s₄.heap.objs.size) wr pz n₀ F) →
            GenAt X.prog X.w X.A.in4 a s₄.gens.size s₄.heap.objs.size (List.range s₄.heap.objs.size) wr pz n₀ F 0 { s₄ with gens := s₄.gens.push gs, toks := tk, heap := h₅ } →
            Q' (.ref a) { s₄ with gens := s₄.gens.push gs, toks := tk, heap := h₅ })) X.xe { s1 with heap := h3, toks := tk } := by
    intro code h3 tk ps' hx hsz hP3 ht3
    obtain ⟨bm, ob, e1, e2, e3, e4, e5, e6, e7, e8⟩ := TB.bm
    have keep3 : ∀ b u, b ≠ P → s1.heap.get? b = some u → h3.get? b = some u := fun b u hb e => hx b u hb (Heap.get?_push_of_some _ e)
    refine wpAny_builtinsFor (m := X.mg) (by rw [I1.ok.glob]; exact ((I1.mod.glob.keeps I1.bk).push o).extBut hx TB.gP) e1 e2 (keep3 _ _ e4 (I1.bk _ _ e5)) e6 e7 e8 ?_
    have hsz3 : s1.heap.objs.size < h3.objs.size := by omega
    refine ⟨s1.heap.objs.size, fp, [s1.heap.objs.size], n, fun i u => i < n ∧ Pf i u, St, fun _ => true, fun i y => y = .bool (f i), rfl, fun A' hA => walks_lt (hW A' hA), ?_, fun b hb => Nat.lt_of_le_of_lt (hfp b hb).1 hsz3, lim2.extBut hx hcP, ?_, ?_, ?_⟩
    · exact (hW X.A hr.hd).frame _ _ _ hst fun b hb u e => hx b u (hfp b hb).2 e
    · intro z
      rw [List.mem_singleton.mp z] at hcl
      exact Nat.lt_irrefl _ hcl
    · intro href hhref
      refine ⟨fun A' E' i v s₂ m₂ hA hD hU hPv hn hm hk => ?_, fun A' E' i v s₂ m₂ hA hD hU hPv hp hn hm hk => ?_⟩
      · simp only [List.forIn_nil]
        exact wpAny_pure ⟨rfl, kp_refl _⟩
      · have kept : ∀ b u, b ≠ P → s1.heap.get? b = some u → s₂.heap.get? b = some u := fun b u hb e => by
          have hlt := Heap.lt_size e
          refine hk b (List.mem_range.mpr ?_) (fun z => ?_) u (hhref b u (keep3 b u hb e))
          · show b < h3.objs.size
            exact Nat.lt_trans hlt hsz3
          · rw [List.mem_singleton.mp z] at hlt
            exact Nat.lt_irrefl _ hlt
        refine wpAny_mono (hel i v hPv.1 (hPf i v hPv.2 hPv.1) _ A' E' s₂ m₂ ⟨hA, hD, hU, rfl, I1.ok.glob, rfl, hn, hm, fun b u e => kept b u (nTb b (I1.bs b u e).2) (I1.bk b u e), I1.mod, fun b u e => ?_, fun j y w hN hσ hv hfr => ?_⟩) (fun y s3 r => ⟨r.1, r.2⟩) fun _ _ e => e
        · have hb : b ≠ P := fun z => by
            rw [z] at e
            unfold but at e
            rw [if_pos rfl] at e
            cases e
          rw [but_ne hb] at e
          refine (I1.hok b u e).stay (fun d w hd q => kept d w ?_ q) (fun d q => ?_) fun d ys q => ?_
          · rcases hd with z | z
            · rw [z]
              exact hb
            · intro e2
              rw [e2, hT] at z
              cases z
          · rw [but_ne fun e2 => by rw [e2, hT] at q; cases q]
            exact q
          · rw [but_ne fun e2 => by rw [e2, hT] at q; cases q]
            exact q
        · obtain ⟨m, hn1, hl⟩ := I1.loc
          obtain ⟨r, rv, l⟩ := hl j y w hN hσ (hv.elim (fun z => Or.inr (Or.inl z)) (fun z => Or.inr (Or.inr z)))
          rcases l with ⟨z, _⟩ | ⟨_, cc, hc, oc, he, hd⟩
          · rcases hv with z2 | z2
            · rw [z] at z2; cases z2
            · rw [z] at z2; cases z2
          · exact ⟨r, cc, rv, clo_lookup (lookup_mem' hfr) hc, oc, kept cc oc (nTb cc (I1.freeC y cc hc)) he, hd⟩
    · intro g h5 tk5 gs hgb hag hsz5 hk5 W5 hat
      simp only [GxR.passing_true, List.length_range] at W5
      refine hQ n f H1 g _ hR ⟨_, _, _, _, _, W5.in4_1, hat, fun j y sj Qj Ej hy hQj => ?_, fun s' hm => ?_⟩
      · obtain ⟨i, hij, rfl⟩ := hy
        obtain ⟨hj, ej⟩ := List.getElem?_eq_some_iff.mp hij
        rw [List.getElem_range] at ej
        subst ej
        exact wpAny_truthy_bool hQj
      · have nwr : ∀ b u, s1.heap.get? b = some u → b ∉ h3.objs.size :: [s1.heap.objs.size] := fun b u e hb => by
          have hl := Heap.lt_size e
          rcases List.mem_cons.mp hb with z | z
          · rw [z] at hl
            exact Nat.lt_irrefl _ (Nat.lt_trans hl hsz3)
          · rw [List.mem_singleton.mp z] at hl
            exact Nat.lt_irrefl _ hl
        exact inv_grown I1 hT (fun b u hb e => hm.heap b u (nwr b u e) (hk5 b u (keep3 b u hb e))) ⟨ps', hm.heap P _ (nwr P _ hPs) (hk5 P _ hP3), ht3⟩ hm.os (AllBare.movedS (I1.bare.push hgb) hm)
  refine ⟨lim2, ?_⟩
  cases hf : codeAmong gpos ps.toList with
  | some cv => exact wpAny_genexprCode_hit hcode (cd.code hP2 ht) hf (go cv (s1.heap.push o) s1.toks ps (Heap.ExtBut.refl _ _) (Nat.le_refl _) hP2 ht)
  | none =>
    refine wpAny_genexprCodeX hcode (cd.code hP2 ht) (cd.tab hP2) hf fun c' h' tk hx hge hlt hco' _ htab' _ => ?_
    obtain ⟨_, _, _, _, _, _, _, _, _, _, _, _, _, _, _, _, _, _, _, htr, _⟩ := hco'
    exact go _ h' tk _ hx (Nat.le_trans hge (Nat.le_of_lt hlt)) htab'.2 htr
/-- all(.. for x in e), any(.. for x in e) -/
def tGen (X : Cx) (P : Addr) (scope : Scope) (x : Str) (elt : Expr) (fin : Nat → (Nat → Bool) → Bool) (te : TE) : TE := fun σ H Q => te σ H fun v H1 => Tab H1 P ∧ ∃ (n : Nat) (xs : Nat → V) (f : Nat → Bool), SrcV X.K H1 v n xs ∧ (∀ i u, i < n → RelV (xs i) u → QV X σ H1 P scope x u elt (.bl (f i))) ∧ Q (.bl (fin n f)) H1
def allF (n : Nat) (f : Nat → Bool) : Bool := (List.range n).all f
def anyF (n : Nat) (f : Nat → Bool) : Bool := (List.range n).any f
theorem pe_all {c P : Addr} {elt iter : Expr} {x : Str} {px p pos gpos : Pos} {scope : Scope} {te : TE} {k : Nat} (hr : Room k X.A) (hg : Gl X "all") (hm : X.mg "all" = none) (hb : bootBuiltins "all" = some (.builtin "all")) (TB : LamX.TabB X.base X.mg c P) (hcode : X.env.code = .ref c) (S : GxR.GenS X.env scope x)
    (hi : PE X iter te) (hs : ∀ v, genFold iter X.env v = pure v)
    (he : starEach [.GeneratorExp elt [⟨.Name x px, iter, [], 0⟩] scope gpos] X.env = (false, eval (.GeneratorExp elt [⟨.Name x px, iter, [], 0⟩] scope gpos) X.env) :: starEach [] X.env := by rfl) :
    PE X (.Call (.Name "all" p) [.GeneratorExp elt [⟨.Name x px, iter, [], 0⟩] scope gpos] [] pos) (tGen X P scope x elt allF te) := by
  refine ⟨fun pins s σ H Q I h => wpAny_Call_Name_kw (ld_blt I hg hm hb (PyProof.Rows.callWith_builtin1 ?_ he (by rfl)))⟩
  rw [he]
  show wpAny _ _ (spliced ((false, eval (.GeneratorExp elt [⟨.Name x px, iter, [], 0⟩] scope gpos) X.env) :: backTo pos (starEach [] X.env))) _ _ s
  refine Calls.spliced_cons (gen_make (R := fun n f H1 => Q (.bl (allF n f)) H1) hr TB hcode S hi hs I h fun n f H1 g s5 hR ⟨fp, wr, G, F, St₁, W, hst, htr, hI⟩ => Calls.spliced_nil ?_)
  exact call_all_walkS (W.self 0 _ _ _ hst ⟨g, fp, wr, G, _, F, St₁, _, rfl, W, hst, htr, fun s' hmv => ⟨.bl _, H1, hI s' hmv, rfl, hR⟩⟩)
theorem pe_any {c P : Addr} {elt iter : Expr} {x : Str} {px p pos gpos : Pos} {scope : Scope} {te : TE} {k : Nat} (hr : Room k X.A) (hg : Gl X "any") (hm : X.mg "any" = none) (TB : LamX.TabB X.base X.mg c P) (hcode : X.env.code = .ref c) (S : GxR.GenS X.env scope x)
    (hi : PE X iter te) (hs : ∀ v, genFold iter X.env v = pure v)
    (he : starEach [.GeneratorExp elt [⟨.Name x px, iter, [], 0⟩] scope gpos] X.env = (false, eval (.GeneratorExp elt [⟨.Name x px, iter, [], 0⟩] scope gpos) X.env) :: starEach [] X.env := by rfl) :
    PE X (.Call (.Name "any" p) [.GeneratorExp elt [⟨.Name x px, iter, [], 0⟩] scope gpos] [] pos) (tGen X P scope x elt anyF te) := by
  refine ⟨fun pins s σ H Q I h => wpAny_Call_Name_kw (ld_blt I hg hm boot_any (PyProof.Rows.callWith_builtin1 ?_ he (by rfl)))⟩
  rw [he]
  show wpAny _ _ (spliced ((false, eval (.GeneratorExp elt [⟨.Name x px, iter, [], 0⟩] scope gpos) X.env) :: backTo pos (starEach [] X.env))) _ _ s
  refine Calls.spliced_cons (gen_make (R := fun n f H1 => Q (.bl (anyF n f)) H1) hr TB hcode S hi hs I h fun n f H1 g s5 hR ⟨fp, wr, G, F, St₁, W, hst, htr, hI⟩ => Calls.spliced_nil ?_)
  exact call_any_walkS (W.self 0 _ _ _ hst ⟨g, fp, wr, G, _, F, St₁, _, rfl, W, hst, htr, fun s' hmv => ⟨.bl _, H1, hI s' hmv, rfl, hR⟩⟩)
end
end LG

set_option Elab.async false
set_option linter.all false
set_option maxRecDepth 100000
set_option maxHeartbeats 4000000
namespace LS
open PySem PySem.Spec PyProof.Rows L2 Evl LT LG
/-! ### texts -/
section
variable {K : PySem.W.Frag} {σ : L2.St} {H : Hp} {ta tb tc te to : TE} {x y z v : V} {D : Ends} {tu tz : TS}
theorem rv_addS {i j : Str} (h : i.length + j.length ≤ sizeLine) : RV (fun x y H Q => ∃ i j, x = .str i ∧ y = .str j ∧ i.length + j.length ≤ sizeLine ∧ Q (.str (i ++ j)) H) (.str i) (.str j) H (.str (i ++ j)) := rv_val fun _ _ Q q => ⟨i, j, rfl, rfl, h, q⟩
theorem ev_lenS {z : Str} {ta : TE} (h : Ev ta σ H (.str z)) (hz : z.length ≤ sizeLine) : Ev (tCB (fun xs H Q => ∃ x, xs = [.str x] ∧ x.length ≤ sizeLine ∧ Q (.int x.length) H) (tCons ta tNil)) σ H (.int (z.length : Int)) := ev_cb (ea_cons h ea_nil) fun H1 _ Q q => ⟨z, rfl, hz, q H1 (Ex.refl H1)⟩
theorem ev_isi {x : V} {n : String} {t : Value} {b : Bool} (h : Ev ta σ H x) (hn : Ev tb σ H (.ty n)) (ht : ∀ H1, Ex H H1 → TyX K H1 x t) (hk : PySem.W.kitOne K t (.type n) = some b) : Ev (tCB (rIsi K) (tCons ta (tCons tb tNil))) σ H (.bl b) :=
  ev_cb (ea_cons h (ea_cons hn ea_nil)) fun H1 e Q q => ⟨x, .ty n, t, .type n, b, rfl, .ty n, ht H1 e, hk, q H1 (Ex.refl H1)⟩
/-- a < b < c over ints -/
theorem et_chain {f g : Int → Int → Bool} {i j k : Int} (ha : Ev ta σ H (.int i)) (hb : Ev tb σ H (.int j)) (hc : Ev tc σ H (.int k)) : EvT (tTest (tChain (rI0 fun i j => .bl (f i j)) (rI0 fun i j => .bl (g i j)) ta tb tc)) σ H (f i j && g j k) := fun H1 e Q q =>
  ha H1 e _ fun H2 e2 => hb H2 (e.trans e2) _ fun H3 e3 => ⟨i, j, rfl, rfl, f i j, rfl, by
    cases hf : f i j with
    | true =>
      rw [if_pos rfl]
      refine hc H3 ((e.trans e2).trans e3) _ fun H4 e4 => ⟨j, k, rfl, rfl, g j k, rfl, ?_⟩
      have := q H4 ((e2.trans e3).trans e4)
      rw [hf] at this
      exact this
    | false =>
      rw [if_neg Bool.false_ne_true]
      have := q H3 (e2.trans e3)
      rw [hf] at this
      exact ⟨false, rfl, this⟩⟩
theorem s_forS {zs : Str} {j : Nat} (h : Ev te σ H (.str zs)) (Pv : Nat → L2.St → Hp → Prop) (h0 : ∀ H1, Ex H H1 → Pv 0 σ H1)
    (hs : ∀ i c σ' H', zs.cps.toList[i]? = some c → Pv i σ' H' → tu { D with nx := Pv (i + 1), ct := Pv (i + 1), bk := D.nx } (σ'.set j (some (.str ⟨#[c]⟩))) H') (hd : ∀ σ' H', Pv zs.cps.toList.length σ' H' → D.nx σ' H') : tFor (iStr te) (gName j) tu D σ H :=
  h H (Ex.refl H) _ fun H1 e => ⟨zs, rfl, fun i m σ' H' => m + i = zs.cps.size ∧ Pv i σ' H', ⟨zs.cps.size, by omega, h0 H1 e⟩, fun i m σ' H' ⟨hm, p⟩ => by
    by_cases hi : i < zs.cps.size
    · refine .inr ⟨hi, Pv (i + 1), fun σ2 H2 p2 => ⟨m - 1, by omega, by omega, p2⟩, fun v H2 hy => ?_⟩
      obtain ⟨rfl, c, hc, rfl⟩ := hy
      exact hs i c σ' H2 (by rw [Array.getElem?_toList]; exact hc) p
    · have ei : i = zs.cps.toList.length := by
        rw [Array.length_toList]
        omega
      rw [ei] at p
      exact .inl ⟨Nat.le_of_not_lt hi, hd σ' H' p⟩⟩
theorem q_forS {zs : Str} {j : Nat} (h : Ev te σ H (.str zs)) (Pv : Nat → L2.St → Hp → Prop) (h0 : ∀ H1, Ex H H1 → Pv 0 σ H1)
    (hs : ∀ i c σ' H', zs.cps.toList[i]? = some c → Pv i σ' H' → tu { D with nx := Pv (i + 1), ct := Pv (i + 1), bk := tz D } (σ'.set j (some (.str ⟨#[c]⟩))) H') (hd : ∀ σ' H', Pv zs.cps.toList.length σ' H' → tz D σ' H') : tSeq (tFor (iStr te) (gName j) tu) tz D σ H :=
  s_forS (D := { D with nx := tz D }) h Pv h0 hs hd
theorem q_call {i : Nat} {sp : Sp} {dvs vs : List V} {E : XK} {tr : TA} (h : EvA tr σ H vs) (k : ∀ H1, Ex H H1 → sp (vs ++ dvs) H1 (fun v H2 => tz D (σ.set i (some v)) H2) E) : tSeq (tAsg (tCall sp dvs E tr) (gName i)) tz D σ H := h H (Ex.refl H) _ fun H1 e => k H1 e
/-- a call whose first argument is a new tuple -/
theorem ev_callU1 {sp : Sp} {dvs vs xs : List V} {E : XK} {tr : TA} (h : EvU ta σ H xs) (hr : EvA tr σ H vs) (hs : ∀ p H1, H1 p = some (.tup xs) → Ex H H1 → SpV sp ((.ref p :: vs) ++ dvs) H1 z) : Ev (tCall sp dvs E (tCons ta tr)) σ H z := fun H1 e Q q =>
  h H1 e _ fun p H2 hp e2 h2 => hr H2 (e.trans e2) _ fun H3 e3 => hs p H3 (e3 _ _ h2) ((e.trans e2).trans e3) H3 (Ex.refl _) Q (fun H4 e4 => q H4 ((e2.trans e3).trans e4)) E
theorem ev_index {W : WX} {a b : Str} {k : Nat} {tr : TA} (h : Ev to σ H (.str a)) (hb : EvA tr σ H [.str b]) (hk : Txt.index0 a b = some k) : Ev (tBMS K "str" (rIndexX W) to tr) σ H (.int (k : Int)) := fun H1 e Q q =>
  h H1 e _ fun H2 e2 => ⟨rfl, hb H2 (e.trans e2) _ fun H3 e3 => ⟨a, b, rfl, rfl, fun k' hk' => by
    rw [hk] at hk'
    cases hk'
    exact q H3 (e2.trans e3), fun hn => by
    rw [hk] at hn
    cases hn⟩⟩
theorem ev_find {a b : Str} (h : Ev to σ H (.str a)) (hb : Ev te σ H (.str b)) : Ev (tM1 (fun x xs H Q => ∃ a b, x = .str a ∧ xs = [.str b] ∧ Q (.int (Txt.find a b)) H) to te) σ H (.int (Txt.find a b)) := fun H1 e Q q =>
  h H1 e _ fun H2 e2 => ⟨⟨a, rfl⟩, hb H2 (e.trans e2) _ fun H3 e3 => ⟨a, b, rfl, rfl, q H3 (e2.trans e3)⟩⟩
theorem ev_slS {tl th : TO} {z : Str} {lo hi : Option Int} (h : Ev te σ H (.str z)) (h1 : EvO tl σ H lo) (h2 : EvO th σ H hi) (hz : z.length ≤ sizeLine) : Ev (tSl rSlS te tl th) σ H (.str (cutS z lo hi)) := fun H1 e Q q =>
  h H1 e _ fun H2 e2 => h1 H2 (e.trans e2) _ fun H3 e3 => h2 H3 ((e.trans e2).trans e3) _ fun H4 e4 => ⟨z, rfl, hz, q H4 ((e2.trans e3).trans e4)⟩
/-- text * int -/
def rMulS : R2 := fun x y H Q => ∃ a n, x = .str a ∧ y = .int n ∧ a.length ≤ 1000 ∧ 0 ≤ n ∧ n ≤ 1000 ∧ Q (.str (Txt.mul a n)) H
theorem rv_mulS {a : Str} {n : Int} (h1 : a.length ≤ 1000) (h2 : 0 ≤ n) (h3 : n ≤ 1000) : RV rMulS (.str a) (.int n) H (.str (Txt.mul a n)) := rv_val fun _ _ Q q => ⟨a, n, rfl, rfl, h1, h2, h3, q⟩
end
theorem mulOk {a : Str} {n : Int} (h1 : a.length ≤ 1000) (h2 : 0 ≤ n) (h3 : n ≤ 1000) : MulOk a n := by
  refine ⟨by simp; omega, fun h h' hh => ?_, fun h h' => ?_⟩
  · have p : (0 : Int) < n := by omega
    have m : (a.length : Int) * n ≤ 1000 * 1000 := Int.mul_le_mul (by omega) h3 h2 (by decide)
    have := (Int.le_ediv_iff_mul_le p).mpr (show (a.length : Int) * n ≤ 2 ^ 63 - 1 by omega)
    omega
  · have m : a.length * n.toNat ≤ 1000 * 1000 := Nat.mul_le_mul h1 (by omega)
    have z : sizeLine = 16777216 := rfl
    show decide (a.length * n.toNat > sizeLine) = false
    exact decide_eq_false (by omega)
theorem op_mul_str {X : Cx} : OpR X (binaryOp .Mult) rMulS := by
  intro pins s σ H x y v u Q I rx ry h
  obtain ⟨a, n, rfl, rfl, h1, h2, h3, q⟩ := h
  obtain ⟨t, rfl⟩ := rx
  obtain ⟨t', rfl⟩ := ry
  exact SB.mul (mulOk h1 h2 h3) fun t'' k => ⟨.str (Txt.mul a n), H, I.tok _, ⟨_, rfl⟩, q⟩
section
variable {X : Cx} {σ : L2.St} {H : Hp} {P : Addr} {scope : Scope} {x : Str} {elt : Expr} {te : TE} {fin : Nat → (Nat → Bool) → Bool}
theorem ev_gen {v : V} {n : Nat} {xs : Nat → V} {f : Nat → Bool} (h : Ev te σ H v) (hT : Tab H P) (hs : ∀ H1, Ex H H1 → SrcV X.K H1 v n xs) (he : ∀ H1, Ex H H1 → ∀ i u, i < n → RelV (xs i) u → QV X σ H1 P scope x u elt (.bl (f i))) :
    Ev (tGen X P scope x elt fin te) σ H (.bl (fin n f)) := fun H1 e Q q => h H1 e _ fun H2 e2 => ⟨hT.mono (e.trans e2), n, xs, f, hs H2 (e.trans e2), he H2 (e.trans e2), q H2 e2⟩
end
theorem allF_list {α : Type} (l : List α) (d : α) (p : α → Bool) : allF l.length (fun i => p (l.getD i d)) = l.all p := by
  unfold allF
  rw [Bool.eq_iff_iff, List.all_eq_true, List.all_eq_true]
  constructor
  · intro h y hy
    obtain ⟨i, hi, rfl⟩ := List.getElem_of_mem hy
    have q := h i (List.mem_range.mpr hi)
    rw [List.getD_eq_getElem?_getD, List.getElem?_eq_getElem hi] at q
    exact q
  · intro h i hi
    have hi' := List.mem_range.mp hi
    rw [List.getD_eq_getElem?_getD, List.getElem?_eq_getElem hi']
    exact h _ (List.getElem_mem hi')
theorem anyF_list {α : Type} (l : List α) (d : α) (p : α → Bool) : anyF l.length (fun i => p (l.getD i d)) = l.any p := by
  unfold anyF
  rw [Bool.eq_iff_iff, List.any_eq_true, List.any_eq_true]
  constructor
  · rintro ⟨i, hi, h⟩
    have hi' := List.mem_range.mp hi
    rw [List.getD_eq_getElem?_getD, List.getElem?_eq_getElem hi'] at h
    exact ⟨_, List.getElem_mem hi', h⟩
  · rintro ⟨y, hy, h⟩
    obtain ⟨i, hi, rfl⟩ := List.getElem_of_mem hy
    refine ⟨i, List.mem_range.mpr hi, ?_⟩
    rw [List.getD_eq_getElem?_getD, List.getElem?_eq_getElem hi]
    exact h
theorem src_str {K : PySem.W.Frag} {H : Hp} (z : Str) : SrcV K H (.str z) z.cps.toList.length (fun i => .str ⟨#[z.cps.toList.getD i 0]⟩) := .inr (.inl ⟨z, rfl, Array.length_toList, fun i c hc => by
  have e : z.cps.toList[i]? = some c := by rw [Array.getElem?_toList]; exact hc
  show V.str ⟨#[z.cps.toList.getD i 0]⟩ = V.str ⟨#[c]⟩
  rw [List.getD_eq_getElem?_getD, e]
  rfl⟩)
/-! ### a def whose code object is known -/
structure FunC (K : PySem.W.Frag) (x qual : Str) (st : Stmt) (f : Addr) (fd : FuncData) (c : Addr) : Prop where
  ex : ∃ (oc : Value) (od : Option Addr) (kV doc pm : Value) (an : Option Addr) (ct : Value) (osl : Array (Option Value)), fd = PySem.W.fnOf x qual (defArgs st) (defBody st) (defScope st) .none kV doc pm an (.ref c) ct ∧ K.lookup f = some ⟨oc, od, .func fd, osl⟩ ∧ PySem.W.codeIn K (.ref c) qual = true
  kp : PySem.W.keepIn K (.ref f) = true
section
variable {P : Program} {w : World} {K : PySem.W.Frag} {mg : Str → Option Value} {base : Heap}
theorem FunC.ok {x qual : Str} {st : Stmt} {f c : Addr} {fd : FuncData} {N ps : List Str} {k : Nat} {sp : Sp} (F : FunC K x qual st f fd c) (S : FnScope N ps (defScope st)) (len : ∀ vs H Q E, sp vs H Q E → vs.length = ps.length)
    (hbody : ∀ (A : Around) (outer : List Env) (s : Shared) (H : Hp) (vs : List V) (Q : VK) (E : XK), Room k (A.deeper (envOfC qual (defScope st) s.heap.objs.size f (.ref c))) → sp vs H Q E →
      ∃ t, PSs (cxOf CX0 P w K mg base N qual (defScope st) f (.ref c) A outer s H E).nox (defBody st) t ∧ t { nx := fun _ H' => Q .non H', rt := Q } (start N vs) H) : FnOk P w K mg base CX0 (k + 1) f fd ps sp := by
  obtain ⟨oc, od, kV, doc, pm, an, ct, osl, rfl, lk, hcd⟩ := F.ex
  exact fn_of lk hcd S len fun A outer s H vs Q E hr hsp => let ⟨t, h, q⟩ := hbody A outer s H vs Q E hr hsp; ⟨t, h.nox, q⟩
theorem FunC.fun {x qual : Str} {st : Stmt} {f c : Addr} {fd : FuncData} (F : FunC K x qual st f fd c) : Fun K x qual st f fd := let ⟨oc, od, kV, doc, pm, an, ct, osl, e, lk, hcd⟩ := F.ex; ⟨⟨oc, od, kV, doc, pm, an, .ref c, ct, osl, e, lk, hcd⟩, F.kp⟩
theorem tab_mk {x : Str} {f c T : Addr} {oc e : Value} {od dd : Option Addr} {osl sl : Array (Option Value)} {fd : FuncData} {vs : Array Value} (a : PySem.W.nsIn K mainGlobals x = some (some (.ref f))) (l : K.lookup f = some ⟨oc, od, .func fd, osl⟩)
    (h : K.lookup c = some ⟨e, dd, .fields vs, sl⟩) (hv : vs[11]? = some (.ref T)) (hc : fd.code = .ref c := by rfl) : PySem.W.tabIn K x = some (c, T) := by
  unfold PySem.W.tabIn
  rw [a]
  dsimp only
  rw [l]
  dsimp only
  rw [hc]
  dsimp only
  rw [h]
  dsimp only
  rw [hv]
theorem funC_mk {x qual : Str} {st : Stmt} {f c T : Addr} {oc : Value} {od an : Option Addr} {osl : Array (Option Value)} {kV doc pm cdv ct : Value} (a : PySem.W.nsIn K mainGlobals x = some (some (.ref f))) (l : K.lookup f = some ⟨oc, od, .func (PySem.W.fnOf x qual (defArgs st) (defBody st) (defScope st) .none kV doc pm an cdv ct), osl⟩)
    (cd : PySem.W.codeIn K cdv qual = true) (k : PySem.W.keepIn K (.ref f) = true) (ht : PySem.W.tabIn K x = some (c, T)) : FunC K x qual st f (PySem.W.fnOf x qual (defArgs st) (defBody st) (defScope st) .none kV doc pm an cdv ct) c := by
  have e : cdv = .ref c := by
    unfold PySem.W.tabIn at ht
    rw [a] at ht
    dsimp only at ht
    rw [l] at ht
    dsimp only [PySem.W.fnOf] at ht
    cases cdv with
    | ref c' =>
      dsimp only at ht
      split at ht
      · split at ht
        · cases ht
          rfl
        · cases ht
      · cases ht
    | _ => cases ht
  subst e
  exact ⟨⟨oc, od, kV, doc, pm, an, ct, osl, rfl, l, cd⟩, k⟩
end
end LS

set_option Elab.async false
set_option linter.all false
set_option maxRecDepth 100000
set_option maxHeartbeats 4000000
namespace LQ
open PySem PySem.Spec PyProof.Rows L2 Evl LT LG LS
/-! ### calls within the elements of a generator expression -/
section
variable {X : Cx} {σ : L2.St} {H : Hp} {P : Addr} {scope : Scope} {x : Str} {u : Value} {a b : Expr} {za zb z : V} {pos p : Pos}
theorem fc_blt {y : Str} {r : Value} {cenv : Env} {A' : Around} {E' : Value → Shared → Prop} {s : Shared} {m : Str → Option Value} {Q : Value → Shared → Prop} (F : Fc X σ H P scope x u cenv A' s m) (hk : scope.kind = .function) (hl : scope.names.lookup y = some .globalImplicit) (hm : X.mg y = none) (hv : bootBuiltins y = some r) (h : Q r s)
    (hn : y ≠ "__name__" := by decide) (hd : (y == ("__debug__" : Str)) = false := by decide) : wpAny (model X.prog X.w) A' (eval (.Name y p) cenv) Q E' s := by
  obtain ⟨mb, h1, h2⟩ := F.md.blt
  exact Calls.Name_function_global (by rw [F.sc]; exact hk) (show cenv.scope.names.lookup y = some .globalImplicit by rw [F.sc]; exact hl) (Calls.loadGlobal_builtin (by rw [F.gl]; exact F.md.glob.keeps F.base) hm (by rw [F.bi]; exact h1.keeps F.base) ((h2 y hn).trans hv) h) hd
theorem qv_blt {y : Str} {r : Value} (hk : scope.kind = .function) (hl : scope.names.lookup y = some .globalImplicit) (hm : X.mg y = none) (hv : bootBuiltins y = some r) (hz : RelV z r) (hn : y ≠ "__name__" := by decide) (hd : (y == ("__debug__" : Str)) = false := by decide) :
    QV X σ H P scope x u (.Name y p) z := fun cenv A' E' s m F => fc_blt F hk hl hm hv ⟨hz, kp_refl _⟩ hn hd
/-- a built-in function of two arguments -/
theorem qv_blt2 {y : Str} {id : String} (hk : scope.kind = .function) (hl : scope.names.lookup y = some .globalImplicit) (hm : X.mg y = none) (hv : bootBuiltins y = some (.builtin id)) (ha : QV X σ H P scope x u a za) (hb : QV X σ H P scope x u b zb) (hr : QR X σ H P scope x u (fun v w => call (.builtin id) [v, w]) za zb z)
    (he : ∀ env, starEach [a, b] env = (false, eval a env) :: starEach [b] env := by intro _; rfl) (h2 : ∀ env, starEach [b] env = [(false, eval b env)] := by intro _; rfl) (hn : y ≠ "__name__" := by decide) (hd : (y == ("__debug__" : Str)) = false := by decide) :
    QV X σ H P scope x u (.Call (.Name y p) [a, b] [] pos) z := fun cenv A' E' s m F => by
  refine wpAny_Call_Name_kw (fc_blt F hk hl hm hv ?_ hn hd)
  refine PyProof.Rows.callWith_builtin1 ?_ (he cenv) (by rw [h2 cenv]; rfl)
  rw [he cenv, h2 cenv]
  show wpAny _ _ (spliced [(false, eval a cenv), (false, eval b cenv)]) _ _ s
  refine Calls.spliced_cons (wpAny_mono (ha cenv A' E' s m F) (fun v s1 r1 => ?_) fun _ _ e => e)
  refine Calls.spliced_cons (wpAny_mono (hb cenv A' E' s1 m (F.keeps r1.2)) (fun w s2 r2 => ?_) fun _ _ e => e)
  exact Calls.spliced_nil (wpAny_mono (hr cenv A' E' s2 m v w ((F.keeps r1.2).keeps r2.2) r1.1 r2.1) (fun y s3 r3 => ⟨r3.1, kp_trans (kp_trans r1.2 r2.2) r3.2⟩) fun _ _ e => e)
/-- what isinstance asks of a value -/
theorem kit_fc {cenv : Env} {A' : Around} {s : Shared} {m : Str → Option Value} {v : Value} {t : Value} (F : Fc X σ H P scope x u cenv A' s m) (hT : Tab H P) (r : RelV z v) (ty : TyOf X.K H z t) (no : ∀ a C dx fs, H a = some (.ins C dx fs) → z ≠ .ref a) :
    ∃ Pz : Heap → Prop, PySem.W.KitX X.K v t Pz ∧ Pz s.heap ∧ v ≠ .builtin "__main__.__loader__#opaque" := by
  have rd : ∀ {a : Addr} {o : HO}, H a = some o → (∀ φ, o ≠ .ext φ) → but P H a = some o := fun {a o} e n => by
    rw [but_ne fun z => by rw [z, hT] at e; exact n _ (Option.some.inj e).symm]
    exact e
  cases ty with
  | non => cases (show v = Value.none from r); exact ⟨_, PySem.W.kitx_none, True.intro, fun z => nomatch z⟩
  | bl y => cases (show v = Value.bool y from r); exact ⟨_, PySem.W.kitx_bool, True.intro, fun z => nomatch z⟩
  | int i => obtain ⟨t, q⟩ := (show ∃ t, v = Value.int i t from r); cases q; exact ⟨_, PySem.W.kitx_int, True.intro, fun z => nomatch z⟩
  | str y => obtain ⟨t, q⟩ := (show ∃ t, v = Value.str y t from r); cases q; exact ⟨_, PySem.W.kitx_str, True.intro, fun z => nomatch z⟩
  | flt y => obtain ⟨t, q⟩ := (show ∃ t, v = Value.float y t from r); cases q; exact ⟨_, PySem.W.kitx_float, True.intro, fun z => nomatch z⟩
  | @lst a xs ea =>
    cases (show v = Value.ref a from r)
    obtain ⟨_, _, n, _, h1⟩ := (show ObjOk X.prog X.w (but P H) s.heap a (.lst xs) from F.hok a _ (rd ea (fun φ z => by cases z)))
    exact ⟨_, PySem.W.kitx_list, ⟨_, h1, rfl⟩, fun z => nomatch z⟩
  | @frz a ob xs ea =>
    cases (show v = Value.ref a from r)
    obtain ⟨_, _, _, n, _, h1⟩ := (show ObjOk X.prog X.w (but P H) s.heap a (.frz ob (.lst xs)) from F.hok a _ (rd ea (fun φ z => by cases z)))
    exact ⟨_, PySem.W.kitx_list, ⟨_, h1, rfl⟩, fun z => nomatch z⟩
  | @tup a xs ea =>
    cases (show v = Value.ref a from r)
    obtain ⟨_, _, _, o, h1, h2, _⟩ := (show ObjOk X.prog X.w (but P H) s.heap a (.tup xs) from F.hok a _ (rd ea (fun φ z => by cases z)))
    exact ⟨_, PySem.W.kitx_tuple, ⟨o, h1, h2⟩, fun z => nomatch z⟩
  | @dK a kvs ea =>
    cases (show v = Value.ref a from r)
    obtain ⟨_, _, vs, _, o, es, ep, h1, h2, _⟩ := F.hok a _ (rd ea (fun φ z => by cases z))
    exact ⟨_, PySem.W.kitx_dict, ⟨o, h1, h2.1⟩, fun z => nomatch z⟩
  | @dT a kvs ea =>
    cases (show v = Value.ref a from r)
    obtain ⟨_, _, xs, _, o, es, ep, h1, h2, _⟩ := F.hok a _ (rd ea (fun φ z => by cases z))
    exact ⟨_, PySem.W.kitx_dict, ⟨o, h1, h2.1⟩, fun z => nomatch z⟩
  | @ins a C dx fs ea cl ha hn htk hm => exact absurd rfl (no a C dx fs ea)
theorem qr_isi {T : String} {t : Value} {b : Bool} (hT : Tab H P) (ty : TyOf X.K H z t) (no : ∀ a C dx fs, H a = some (.ins C dx fs) → z ≠ .ref a) (hk : PySem.W.kitOne X.K t (.type T) = some b) : QR X σ H P scope x u (fun v w => call (.builtin "isinstance") [v, w]) z (.ty T) (.bl b) := fun cenv A' E' s m v w F r1 r2 => by
  cases (show w = Value.type T from r2)
  obtain ⟨Pz, Z, p, hx⟩ := kit_fc F hT r1 ty no
  exact PySem.W.kia_one Z F.kin p hk hx fun tk => ⟨rfl, kp_tok _ _⟩
theorem qv_is {z' : V} (h : QV X σ H P scope x u a z) (e : z = z') : QV X σ H P scope x u a z' := e ▸ h
theorem qv_not {c : Bool} (ha : QV X σ H P scope x u a (.bl c)) : QV X σ H P scope x u (.UnaryOp .Not a pos) (.bl (!c)) := fun cenv A' E' s m F => by
  refine UnaryOp_ (wpAny_mono (ha cenv A' E' s m F) (fun v s1 r1 => ?_) fun _ _ e => e)
  obtain ⟨rfl, k⟩ := r1
  exact not_of (wpAny_truthy_bool ⟨rfl, k⟩)
theorem qv_one {op : BoolOp} (ha : QV X σ H P scope x u a z) : QV X σ H P scope x u (.BoolOp op [a] pos) z := fun cenv A' E' s m F => BoolOp_one (ha cenv A' E' s m F)
theorem qv_and {rest : List Expr} {c d : Bool} (ha : QV X σ H P scope x u a (.bl c)) (hb : c = true → QV X σ H P scope x u (.BoolOp .And (b :: rest) pos) (.bl d)) : QV X σ H P scope x u (.BoolOp .And (a :: b :: rest) pos) (.bl (c && d)) := fun cenv A' E' s m F => by
  refine BoolOp_and (wpAny_mono (ha cenv A' E' s m F) (fun v s1 r1 => ?_) fun _ _ e => e)
  obtain ⟨rfl, k⟩ := r1
  refine wpAny_truthy_bool ?_
  cases c with
  | true => exact wpAny_mono (hb rfl cenv A' E' s1 m (F.keeps k)) (fun y s3 r3 => ⟨r3.1, kp_trans k r3.2⟩) fun _ _ e => e
  | false => exact ⟨rfl, k⟩
theorem qr_ge_int {i j : Int} : QR X σ H P scope x u (compareOp .GtE) (.int i) (.int j) (.bl (decide (j ≤ i))) := fun cenv A' E' s m v w F r1 r2 => by
  obtain ⟨t, rfl⟩ := r1
  obtain ⟨t', rfl⟩ := r2
  exact ge_int ⟨rfl, kp_refl _⟩
/-- an own def of one argument whose body is one return -/
theorem qv_call1 {nm pn qual : Str} {st : Stmt} {f : Addr} {fd : FuncData} {N : List Str} {e : Expr} {rp : Pos} {k : Nat} (hr : Room k X.A) (hk : scope.kind = .function) (hl : scope.names.lookup nm = some .globalImplicit) (hm : X.mg nm = some (.ref f)) (F : Fun X.K nm qual st f fd) (hbody : defBody st = [.Return (some e) rp]) (S : FnScope N [pn] (defScope st)) (hloc : (defScope st).names.lookup pn = some .local)
    (hb : Binds X.K fd [pn] []) (ha : QV X σ H P scope x u a za) (he : ∀ (A0 : Around) (v : Value), RelV za v → QV { X with A := A0 } σ H P (defScope st) pn v e z) (hs : ∀ env, starEach [a] env = (false, eval a env) :: starEach [] env := by intro _; rfl) (hd : (nm == ("__debug__" : Str)) = false := by decide) :
    QV X σ H P scope x u (.Call (.Name nm p) [a] [] pos) z := fun cenv A' E' s m Fc0 => by
  refine wpAny_Call_Name_kw (Calls.Name_function_global (by rw [Fc0.sc]; exact hk) (show cenv.scope.names.lookup nm = some .globalImplicit by rw [Fc0.sc]; exact hl) (Calls.loadGlobal_global (by rw [Fc0.gl]; exact Fc0.md.glob.keeps Fc0.base) hm ?_) hd)
  refine PySem.W.callWith_K (h₀ := X.base) Fc0.md.kin F.kp ?_ (hs cenv) (by rfl)
  rw [hs cenv]
  show wpAny _ _ (spliced ((false, eval a cenv) :: [])) _ _ s
  refine Calls.spliced_cons (wpAny_mono (ha cenv A' E' s m Fc0) (fun v s1 r1 => Calls.spliced_nil ?_) fun _ _ e => e)
  have F1 := Fc0.keeps r1.2
  refine ⟨F1.kin, ?_⟩
  obtain ⟨oc, od, kV, doc, pm, an, cdv, ct, osl, rfl, lk, hcd⟩ := F.ex
  refine wpAny_call (Att.call_fn (binds := [(pn, v)]) F1.kin (F1.md.nolimit.keeps F1.base) lk hcd (by have := hr.dp; have := Fc0.dp; omega) (hb s1 [v] F1.kin rfl) ?_ (fun s2 IC => ?_) S.co S.gen S.kind)
  · simp only [List.all_cons, List.all_nil, Bool.and_true, Bool.or_eq_true, beq_iff_eq]
    exact .inl hloc
  · obtain ⟨h2, tk2, rfl⟩ := IC.toInCall.same
    have kk : ∀ b o, s1.heap.get? b = some o → h2.get? b = some o := IC.toInCall.keep
    rw [hbody]
    have Fn : Fc { X with A := A' } σ H P (defScope st) pn v (envOfC qual (defScope st) s1.heap.objs.size f cdv) (A'.deeper (envOfC qual (defScope st) s1.heap.objs.size f cdv)) { s1 with heap := h2, toks := tk2 } _ :=
      ⟨Fc0.hd, Nat.le_refl _, by show A'.units + 3 ≤ A'.units + 8; omega, rfl, rfl, rfl, IC.toInCall.ns, by
        show bindL _ [(pn, v)] _ pn = some v
        unfold bindL
        have hkd : (envOfC qual (defScope st) s1.heap.objs.size f cdv).kindOf pn = some .local := hloc
        rw [hkd]
        simp [bindL], fun b o e => kk b o (F1.base b o e), F1.md, F1.hok.kept kk, fun i y w h1 h2 h3 h4 => absurd rfl (S.nofree (y, .free) (lookup_mem' h4))⟩
    refine wpAny_execs_cons (wpAny_Return_some (wpAny_mono (he A' v r1.1 _ _ _ _ _ Fn) (fun y s3 r3 => ⟨r3.1, kp_trans (kp_trans r1.2 ⟨h2, tk2, rfl, kk⟩) r3.2⟩) fun _ _ e => e))
end
end LQ

set_option Elab.async false
set_option linter.all false
set_option maxRecDepth 100000
set_option maxHeartbeats 4000000
namespace LX
open PySem PySem.Spec PyProof.Rows L2 Evl LT LG LS
/-! ### own exceptions without arguments -/
abbrev veTail : List Value := [.type "ValueError", .type "Exception", .type "BaseException", .type "object"]
/-- an exception class of the text: its name, what the written part says of it -/
structure Xc (K : PySem.W.Frag) (mg : Str → Option Value) (nm : Str) (C : Addr) : Prop where
  g : mg nm = some (.ref C)
  x : PySem.W.excIn K C veTail "ValueError.__new__" = true
  k : PySem.W.keepIn K (.ref C) = true
  b : PySem.W.subIn K (.ref C) (.type "BaseException") = some true
  t : PySem.W.typeIn K (.ref C) = some (.type "type")
  d : PySem.W.hasDictIn K C = true
section
variable {X : Cx} {C D : Addr} {nm : Str}
theorem pmk_own0 {p pos : Pos} (T : Xc X.K X.mg nm C) (hg : Gl X nm) (hdb : (nm == ("__debug__" : Str)) = false := by decide) : PMk X (.Call (.Name nm p) [] [] pos) (fun _ H Q => Q (.ref C) none H) := by
  intro pins s σ H Q I h
  refine wpAny_Call_Name_kw (ld_glob I hg T.g ?_ hdb)
  refine PySem.W.callWith_K0 I.kIn T.k ?_
  show wpAny _ _ (call (.ref C) []) _ _ _
  obtain ⟨_, _, _, _, _, _, _, _, _, _, _, _, _, _, _, _, _, hC, hN, hni, TT⟩ := exc_obj I.kIn T.x
  refine wpAny_call_exc_subT PySem.F.excBase_ValueError TT hC hN hni (fun h' e hm => ?_) (Nat.zero_le _)
  exact mk_of I hm (raises_own T.b T.t) h (I.hok.gone hm.new)
theorem ps_raise0 {W : WX} {p pos pos2 : Pos} (hc : X.calm = true) (T : Xc X.K X.mg nm C) (tk : Takes X W) (hg : Gl X nm) (hdb : (nm == ("__debug__" : Str)) = false := by decide) : PS X (.Raise (some (.Call (.Name nm p) [] [] pos)) none pos2) (fun _ σ H => W (.ref C) none σ H) := ps_raise hc tk (pmk_own0 T hg hdb)
/-- isinstance(e, c), e what the suite holds -/
def rIsX (K : PySem.W.Frag) (D a : Addr) (cls : Value) (d : Option Addr) : List V → Hp → VK → Prop := fun xs H Q => cls = .ref D ∧ d = none ∧ rIsE K D a xs H Q
theorem call_isX {a : Addr} {oe : Obj} {cls : Value} {d : Option Addr} {pn : List (Addr × Obj)} (C : ExcC X.K D) (hz : Zc cls d oe) (hf : ∃ vs, oe.data = .fields vs) : CallR (X.suite a ((a, oe) :: pn)) (.builtin "isinstance") (rIsX X.K D a cls d) := by
  intro pins s σ H xs us Q I r h
  obtain ⟨rfl, rfl, h⟩ := h
  exact call_isE C hz hf pins s σ H xs us Q I r h
end
section
variable {K : PySem.W.Frag} {mg : Str → Option Value} {C D : Addr} {nm : Str} {b : Bool}
theorem Xc.exm (T : Xc K mg nm C) {cls : Value} (h : PySem.W.subIn K cls (.ref C) = some b) : PySem.W.exmOne K cls (.ref C) = some b := PySem.W.exm_ref T.b T.d T.t h
theorem Xc.kit (T : Xc K mg nm C) {cls : Value} (h : PySem.W.subIn K cls (.ref C) = some b) (hn : cls = .ref C → b = true) : PySem.W.kitOne K cls (.ref C) = some b := by
  have e := T.exm h
  unfold PySem.W.exmOne at e
  rw [T.b] at e
  unfold PySem.W.kitOne
  by_cases q : cls = .ref C
  · rw [hn q, q]
    simp
  · rw [if_neg (by simpa using q)]
    simpa using e
end
/-- a try whose suite returns: what the body's calls that return do, what the suite does -/
theorem ev_isX {K : PySem.W.Frag} {D a C : Addr} {σ : L2.St} {H : Hp} {ta tb : TE} {b : Bool} (h : Ev ta σ H (.ref a)) (hn : Ev tb σ H (.ref C)) (hk : PySem.W.kitOne K (.ref D) (.ref C) = some b) : Ev (tCB (rIsX K D a (.ref D) none) (tCons ta (tCons tb tNil))) σ H (.bl b) :=
  ev_cb (ea_cons h (ea_cons hn ea_nil)) fun H1 e Q q => ⟨rfl, rfl, .ref C, .ref C, b, rfl, fun u hu => hu, hk, q H1 (Ex.refl H1)⟩
theorem pass_own {X : Cx} {E : XK} (tk : Takes X (fun cls d _ H => E cls d H)) : Passes (L2.CX X.prog X.w) X E := passes_call tk fun _ _ _ _ h => h
end LX

set_option Elab.async false
set_option linter.all false
set_option maxRecDepth 100000
set_option maxHeartbeats 4000000
namespace LH
open PySem PySem.Spec PyProof.Rows L2 Evl LT LG
/-! ### generator expressions, whatever their elements do -/
/-- the context of a generator's frame: its own stack, what stands at its start -/
abbrev gnb (X : Cx) (A' : Around) (s : Shared) (H : Hp) (cenv : Env) (fp : List Addr) : Cx :=
  { X with A := A', s_0 := s, H_0 := H, env := cenv, outer := X.stack, stack := cenv :: X.stack, ex := fp, fn := fun _ => false, calm := true, pn := [], xe := fun _ _ => False }
/-- the frame's own environment -/
abbrev gnE (X : Cx) (scope : Scope) (C : Addr) (code : Value) : Env := genEnv scope (cloFrom X.env.cells scope.names []) C code builtinsNs X.env
section
variable {X : Cx} {pins : List (Addr × Obj)} {σ : L2.St} {H : Hp} {s : Shared}
theorem clo_back {cells : List (Str × Addr)} {scope : Scope} (hfree : ∀ y ∈ scope.names, y.2 = .free → ∃ c, cells.lookup y.1 = some c) {y : Str} {c : Addr} (e : (cloFrom cells scope.names []).lookup y = some c) : (y, NameKind.free) ∈ scope.names ∧ cells.lookup y = some c := by
  rcases cloFrom_mem (PySem.mem_of_lookup e) with h | ⟨h1, h2⟩
  · cases h
  · obtain ⟨d, hd⟩ := hfree _ h1 rfl
    have hd' : cells.lookup y = some d := hd
    rw [hd'] at h2
    exact ⟨h1, by rw [hd', h2]; rfl⟩
theorem gen_begin {A' : Around} {scope : Scope} {own : List (Str × Nat)} {fp : List Addr} {code : Value} {m : Str → Option Value} {h' : Heap} {g' : Array GenState} {t' : Nat} (I : Inv X pins σ H s) (ok : BlkOk X.N X.env.scope scope own) (hcell : ∀ y ∈ scope.names, y.2 ≠ .cell) (hN : X.N.Nodup)
    (hfp : ∀ b ∈ fp, FpOk X pins H b ∧ b < s.heap.objs.size) (hA : A'.handled = none) (hfr : A'.frames = some (gnE X scope s.heap.objs.size code :: X.stack)) (hk : ∀ b o, s.heap.get? b = some o → h'.get? b = some o) (hn : h'.Ns s.heap.objs.size m) (hg : AllBare g') :
    Inv (gnb X A' s H (gnE X scope s.heap.objs.size code) fp) [] (wipe σ (own.map (·.2))) H { s with heap := h', gens := g', toks := t' } := by
  have hfree : ∀ y ∈ scope.names, y.2 = .free → ∃ c, X.env.cells.lookup y.1 = some c := fun y hy e => (ok.free y hy e).elim (fun k => I.ok.has _ (.inl k)) fun k => I.ok.has _ (.inr k)
  have back : ∀ {y : Str} {c : Addr}, (gnE X scope s.heap.objs.size code).cells.lookup y = some c → (y, NameKind.free) ∈ scope.names ∧ X.env.cells.lookup y = some c := fun {y c} e => clo_back hfree e
  have clt : ∀ {y : Str} {c : Addr}, X.env.cells.lookup y = some c → c < s.heap.objs.size := fun {y c} e => let ⟨_, z⟩ := I.cell _ _ e; z.lt
  have fwd : ∀ {y : Str}, scope.names.lookup y = some .free → ∃ c, (gnE X scope s.heap.objs.size code).cells.lookup y = some c ∧ X.env.cells.lookup y = some c := fun {y} hl =>
    let ⟨c, hc⟩ := hfree _ (PySem.mem_of_lookup hl) rfl
    ⟨c, clo_lookup (PySem.mem_of_lookup hl) hc, hc⟩
  have okG : (gnb X A' s H (gnE X scope s.heap.objs.size code) fp).Ok := by
    refine ⟨I.ok.mod, ok.kind, I.ok.glob, rfl, Nat.le_refl _, fun y z c e1 e2 => I.ok.inj y z c (back e1).2 (back e2).2, fun y hy => ?_, fun y c z => (Bool.noConfusion (show false = true from z)), fun _ => hA, hfr, .inr ⟨rfl, rfl⟩, fun b hb => ⟨Nat.ne_of_lt (hfp b hb).2, fun y c e z => (hfp b hb).1.2.2.2.2.1 y c (back e).2 z⟩, I.bs, Nat.le_trans I.ok.bsz I.sz, fun b o e hb => ?_, fun b hb z => ?_, I.stack, I.stkFree⟩
    · rcases hy with hy | hy
      · exact absurd rfl (hcell _ (PySem.mem_of_lookup (show scope.names.lookup y = some .cell from hy)))
      · obtain ⟨c, h1, _⟩ := fwd (show scope.names.lookup y = some .free from hy)
        exact ⟨c, h1⟩
    · rcases (hfp b hb).1.2.2.2.1 with z | z
      · exact I.ok.noex b o e z
      · exact Nat.lt_irrefl _ (Nat.lt_of_lt_of_le (Nat.lt_of_lt_of_le (Heap.lt_size e) I.ok.bsz) z)
    · rcases List.mem_cons.mp (I.stkSub b z) with z | z
      · exact (hfp b hb).1.2.1 z
      · exact (hfp b hb).1.2.2.1 z
  refine ⟨okG, rfl, hg, Un.kept hk, ⟨m, hn, fun i y av e1 e2 e3 => ?_⟩, fun y c e => ?_, I.hok.fresh (Nat.le_refl _), fun y c e => I.freeC y c (back e).2, fun p hp => absurd (show p ∈ ([] : List (Addr × Obj)) ++ [] from hp) (by simp), I.hok.kept hk, by rw [wipe_length]; exact I.len⟩
  · obtain ⟨e2, hne⟩ := wipe_some e2
    have hfr : scope.names.lookup y = some .free := by
      have no : ∀ k, scope.names.lookup y = some k → ¬ (k = .local ∨ k = .cell) := fun k hk hh => by
        rcases ok.own _ (PySem.mem_of_lookup hk) hh with e' | e'
        · obtain ⟨p, hp, hpy⟩ := List.mem_map.mp e'
          have e4 := ok.ix p hp
          have : p.1 = y := hpy
          rw [this] at e4
          exact hne (List.mem_map.mpr ⟨p, hp, nodup_ix hN e4 e1⟩)
        · exact e' (List.mem_of_getElem? e1)
      rcases (show Vis scope y from e3) with e3 | e3 | e3
      · exact absurd (.inl rfl) (no _ e3)
      · exact absurd (.inr rfl) (no _ e3)
      · exact e3
    obtain ⟨m0, _, hl⟩ := I.loc
    have hvis : Vis X.env.scope y := (ok.free _ (PySem.mem_of_lookup hfr) rfl).elim (fun k => .inr (.inl k)) fun k => .inr (.inr k)
    obtain ⟨w, r, q⟩ := hl i y av e1 e2 hvis
    obtain ⟨c, h1, h2⟩ := fwd hfr
    refine ⟨w, r, .inr ⟨.inr hfr, c, h1, ?_⟩⟩
    rcases q with ⟨k, _⟩ | ⟨_, c', e', z⟩
    · have k : X.env.scope.names.lookup y = some .local := k
      rcases ok.free _ (PySem.mem_of_lookup hfr) rfl with k' | k' <;> rw [show X.env.scope.names.lookup y = _ from k'] at k <;> cases k
    · rw [h2] at e'; cases e'
      exact z.keeps hk
  · obtain ⟨w, z⟩ := I.cell y c (back e).2
    exact ⟨w, z.keeps hk⟩
/-! ### turns -/
/-- what stands between two turns: i taken -/
def Btw (Y : Cx) (a : Addr) (oa : Obj) (τ : L2.St) (fp : List Addr) (tn : Nat → Heap → Prop) (W : Nat → Hp → Prop) (Sp : List Addr) (i : Nat) (s : Shared) : Prop :=
  ∃ (H' : Hp) (ps : List (Addr × Obj)), ps.map (·.1) = Sp ∧ Inv Y ((a, oa) :: ps) τ H' s ∧ tn i s.heap ∧ (∀ b ∈ fp, FpOk Y ((a, oa) :: ps) H' b) ∧ W i H'
/-- the end -/
def Gone (Y : Cx) (a : Addr) (oa : Obj) (τ : L2.St) (W : Nat → Hp → Prop) (n : Nat) (Sp : List Addr) (s : Shared) : Prop :=
  ∃ (H' : Hp) (ps : List (Addr × Obj)) (i : Nat), i ≤ n ∧ ps.map (·.1) = Sp ∧ Inv Y ((a, oa) :: ps) τ H' s ∧ W i H'
def Same (Sp : List Addr) (s s' : Shared) : Prop := ∀ b ∈ Sp, ∃ o, s.heap.get? b = some o ∧ s'.heap.get? b = some o
theorem Same.trans {Sp : List Addr} {s s1 s2 : Shared} (a : Same Sp s s1) (b : Same Sp s1 s2) : Same Sp s s2 := fun x hx => by
  obtain ⟨o, h1, h2⟩ := a x hx
  obtain ⟨o', h3, h4⟩ := b x hx
  rw [h2] at h3
  cases h3
  exact ⟨o, h1, h4⟩
theorem same_pins {Y : Cx} {p : Addr × Obj} {ps q1 q2 : List (Addr × Obj)} {τ τ' : L2.St} {H H' : Hp} {s s' : Shared} (I : Inv Y (p :: ps ++ q1) τ H s) (I' : Inv Y (p :: ps ++ q2) τ' H' s') : Same (ps.map (·.1)) s s' := fun b hb => by
  obtain ⟨x, hx, rfl⟩ := List.mem_map.mp hb
  have m : ∀ q, x ∈ Y.pn ++ (p :: ps ++ q) := fun q => List.mem_append_right _ (List.mem_append_left _ (List.mem_cons_of_mem _ hx))
  exact ⟨x.2, (I.pin x (m _)).1, (I'.pin x (m _)).1⟩
theorem same_pins0 {Y : Cx} {p : Addr × Obj} {ps : List (Addr × Obj)} {τ τ' : L2.St} {H H' : Hp} {s s' : Shared} (I : Inv Y (p :: ps) τ H s) (I' : Inv Y (p :: ps) τ' H' s') : Same (ps.map (·.1)) s s' :=
  same_pins (q1 := []) (q2 := []) (by simpa using I) (by simpa using I')
/-- what is handed out -/
def GPr (vals : Nat → V) (n : Nat) (Sp : List Addr) (J : Nat → Shared → Prop) : Protocol := fun m s₀ v s kap =>
  ∃ i, i + m + 1 = n ∧ RelV (vals i) v ∧ Same Sp s₀ s ∧ J (i + 1) s ∧ ∀ s'', J (i + 1) s'' → kap (.send .none) s''
theorem seg_turns {A₁ : Around} {elt tg iter : Expr} {scope : Scope} {pos : Pos} {it a : Addr} {oa : Obj} {cenv : Env} {Y : Cx} {fp : List Addr} {tn : Nat → Heap → Prop} {J : It} {W : Nat → Hp → Prop} {Sp : List Addr} {n : Nat} {vals : Nat → V} {g : TG} {te : TE} {vs : List Nat} {σ : L2.St}
    (hYA : Y.A = A₁.over (.compLoop (.GeneratorExp elt [⟨tg, iter, [], 0⟩] scope pos) 0 (.ref it) .none cenv) []) (hYe : Y.env = cenv) (hc : Y.calm = true) (hxe : Y.xe = fun _ _ => False) (hco : cenv.scope.isCoroutine = false) (T : Turn Y.prog Y.w Y.K tg J fp it tn) (pg : PG Y tg g) (pe : PE Y elt te)
    (turn : ∀ i H', i < n → W i H' → J.go i H' ∧ ∀ x H2, J.yld i H' x H2 → g x (wipe σ vs) H2 fun σ2 H3 => wipe σ2 vs = wipe σ vs ∧ te σ2 H3 fun y H4 => y = vals i ∧ W (i + 1) H4) (stop : ∀ H', W n H' → J.stop n H') :
    ∀ (k i : Nat) (s₀ s : Shared), n - i = k → i ≤ n → Same Sp s₀ s → Btw Y a oa (wipe σ vs) fp tn W Sp i s →
      Seg (model Y.prog Y.w) A₁ (fun m s₀ r s₁ => r = .ok .next ∧ (m = 0 ∧ (Same Sp s₀ s₁ ∧ Gone Y a oa (wipe σ vs) W n Sp s₁))) (GPr vals n Sp (Btw Y a oa (wipe σ vs) fp tn W Sp)) (n - i) s₀
        (.compLoop (.GeneratorExp elt [⟨tg, iter, [], 0⟩] scope pos) 0 (.ref it) .none cenv) ((model Y.prog Y.w).den (.compLoop (.GeneratorExp elt [⟨tg, iter, [], 0⟩] scope pos) 0 (.ref it) .none cenv)) [] s := by
  intro k
  induction k with
  | zero =>
    intro i s₀ s hk hi hS ⟨H', ps, hps, I, st, hf, w⟩
    obtain rfl : i = n := by omega
    show Seg _ A₁ _ _ _ s₀ _ ((compTurn (.GeneratorExp elt [⟨tg, iter, [], 0⟩] scope pos) 0 (.ref it) .none cenv).onRaise (leaving cenv)) [] s
    rw [compTurn_gen, Sem.onRaise_eq_wrap]
    refine seg_bind_wrap (wpAny_standAt (seg_bind_wrap ?_))
    have td := T.done Y rfl rfl rfl hc i _ s _ H' (fun _ _ => False) I hf st (stop _ w)
    rw [hYA] at td
    refine thnF td fun r s1 ⟨hr, I1⟩ => ?_
    subst hr
    exact seg_end (.ok .next) ⟨rfl, by omega, hS.trans (hps ▸ same_pins0 I I1), H', ps, i, Nat.le_refl _, hps, I1, w⟩
  | succ k ih =>
    intro i s₀ s hk hi hS ⟨H', ps, hps, I, st, hf, w⟩
    have hlt : i < n := by omega
    obtain ⟨m, hm⟩ : ∃ m, n - i = m + 1 := ⟨n - i - 1, by omega⟩
    show Seg _ A₁ _ _ _ s₀ _ ((compTurn (.GeneratorExp elt [⟨tg, iter, [], 0⟩] scope pos) 0 (.ref it) .none cenv).onRaise (leaving cenv)) [] s
    rw [compTurn_gen, Sem.onRaise_eq_wrap]
    refine seg_bind_wrap (wpAny_standAt (seg_bind_wrap ?_))
    obtain ⟨go, step⟩ := turn i H' hlt w
    have ti := T.item Y rfl rfl rfl hc i _ s _ H' (fun _ _ => False) I hf st go
    rw [hYA] at ti
    refine thnF ti fun r s6 ⟨u, hr, h6⟩ => ?_
    subst hr
    refine seg_bind_wrap (thnF h6 fun _ s7 ⟨x, H7, I7, r7, y7, st7, n7⟩ => ?_)
    have hf7 : ∀ b ∈ fp, FpOk Y ((a, oa) :: ps) H7 b := fun b hb => ⟨n7 b hb, (hf b hb).2⟩
    have I7' := I7.pinned hf7 (T.obj _ _ st7)
    have pgr := pg.run _ s7 _ H7 x u _ I7' r7 (step x H7 y7)
    rw [hYA, hYe, hxe] at pgr
    refine seg_bind_wrap (thnF pgr fun _ s8 ⟨σ8, H8, I8, hw8, q8⟩ => ?_)
    refine seg_bind_wrap (wpAny_tests_nil ?_)
    simp only [if_true]
    have hy : ∀ v, yieldOut cenv v = yieldValue v := fun v => by simp only [yieldOut, hco, Bool.false_eq_true, if_false]
    simp only [hy]
    rw [Sem.bind_eq_wrap', Sem.bind_eq_wrap', Sem.wrap_wrap, Sem.wrap_wrap, hm]
    have per := pe.run _ s8 σ8 H8 _ I8 q8
    rw [hYA, hYe, hxe] at per
    refine seg_wrap (thnF per fun v s9 ⟨y, H9, I9, r9, ey, w9⟩ => ?_)
    subst ey
    have keep : ∀ b ∈ fp, ∀ o, s7.heap.get? b = some o → s9.heap.get? b = some o ∧ H9 b = none := fun b hb o e =>
      let z := I9.pin (b, o) (List.mem_append_right _ (List.mem_append_right _ (mem_pinsAt hb e)))
      ⟨z.1, z.2.1⟩
    have hl : (wipe σ vs).length = σ8.length := by rw [← hw8, wipe_length]
    have B9 : Btw Y a oa (wipe σ vs) fp tn W Sp (i + 1) s9 := ⟨H9, ps, hps, (I9.unpinned).weak hl fun j v e => by
        rw [← hw8] at e
        exact (wipe_some e).1, T.keep _ _ _ st7 fun b hb o e => (keep b hb o e).1, fun b hb => by
        obtain ⟨o, e, _⟩ := T.obj _ _ st7 b hb
        exact ⟨(keep b hb o e).2, (hf b hb).2⟩, w9⟩
    have S9 : Same Sp s₀ s9 := hS.trans (hps ▸ same_pins (q1 := []) (by simpa using I) I9)
    refine seg_at (seg_yield rfl rfl rfl ⟨i, by omega, r9, S9, B9, fun s'' B'' => ?_⟩)
    have e1 : m = n - (i + 1) := by omega
    rw [e1]
    exact seg_again rfl (ih (i + 1) s'' s'' (by omega) hlt (fun b hb => by
      obtain ⟨H2, ps2, hps2, I2, _⟩ := B''
      rw [← hps2] at hb
      obtain ⟨z, hz, rfl⟩ := List.mem_map.mp hb
      exact ⟨z.2, (I2.pin z (List.mem_append_right _ (List.mem_cons_of_mem _ hz))).1, (I2.pin z (List.mem_append_right _ (List.mem_cons_of_mem _ hz))).1⟩) B'')
end
end LH
namespace LH
open PySem PySem.Spec PyProof.Rows L2 Evl LT LG
section
variable {prog : Program} {w : World} {A : Around} {E : Value → Shared → Prop} {s : Shared}
/-- the generator number g, j of its n items taken -/
def GSt (prog : Program) (w : World) (A : Around) (g n : Nat) (vals : Nat → V) (Sp : List Addr) (J : Nat → Shared → Prop) (Fn : Shared → Prop) (j : Nat) (s : Shared) : Prop :=
  J j s ∧ ∃ gs, s.gens[g]? = some gs ∧ ∀ s'', J j s'' → gs.Goes (model prog w) A.in1 (fun m s₀ r s₁ => r = .ok .next ∧ (m = 0 ∧ (Same Sp s₀ s₁ ∧ Fn s₁))) (GPr vals n Sp J) (n - j) (.send .none) s''
structure JOk (a : Addr) (g : Nat) (J : Nat → Shared → Prop) (Fn : Shared → Prop) : Prop where
  gen : ∀ j s, J j s → s.heap.IsGen a g
  lim : ∀ j s, J j s → s.heap.NoLimit
  set : ∀ j s x, x.bare = true → J j s → J j (s.setGen g x)
  fin : ∀ s h', Fn s → (∀ b o, s.heap.get? b = some o → h'.get? b = some o) → Fn { s.setGen g .finished with heap := h' }
/-- what a consumer may do with the iterator at a -/
structure WG (prog : Program) (w : World) (A : Around) (a : Addr) (n : Nat) (vals : Nat → V) (Sp : List Addr) (St : Nat → Shared → Prop) (Fin : Shared → Prop) : Prop where
  item : ∀ i (s : Shared) (Q : Option Value → Shared → Prop) (E : Value → Shared → Prop), i < n → St i s → (∀ v s', RelV (vals i) v → St (i + 1) s' → Same Sp s s' → Q (some v) s') → wpAny (model prog w) A (pyNext (.ref a)) Q E s
  done : ∀ (s : Shared) (Q : Option Value → Shared → Prop) (E : Value → Shared → Prop), St n s → (∀ s', Fin s' → Same Sp s s' → Q none s') → wpAny (model prog w) A (pyNext (.ref a)) Q E s
  self : ∀ i (s : Shared) (Q : Value → Shared → Prop) (E : Value → Shared → Prop), St i s → Q (.ref a) s → wpAny (model prog w) A (pyIter (.ref a)) Q E s
  fin : ∀ i s, i ≤ n → St i s → Fin s
  upd : ∀ i (s : Shared) h' tk, St i s → (∀ b o, b ∉ Sp → s.heap.get? b = some o → h'.get? b = some o) → (∀ b ∈ Sp, ∃ o, h'.get? b = some o ∧ ∀ v, o.data ≠ .cell v) → St i { s with heap := h', toks := tk }
  finU : ∀ (s : Shared) h' tk, Fin s → (∀ b o, b ∉ Sp → s.heap.get? b = some o → h'.get? b = some o) → (∀ b ∈ Sp, ∃ o, h'.get? b = some o ∧ ∀ v, o.data ≠ .cell v) → Fin { s with heap := h', toks := tk }
theorem WG.of_in1 {a : Addr} {n : Nat} {vals : Nat → V} {Sp : List Addr} {St : Nat → Shared → Prop} {Fin : Shared → Prop} (W : WG prog w A.in1 a n vals Sp St Fin) : WG prog w A a n vals Sp St Fin :=
  ⟨fun i s Q E hi st hQ => wpAny_of_in1 (W.item i s Q E hi st hQ), fun s Q E st hQ => wpAny_of_in1 (W.done s Q E st hQ), fun i s Q E st hQ => wpAny_of_in1 (W.self i s Q E st hQ), W.fin, W.upd, W.finU⟩
theorem gst_item {a : Addr} {g n j : Nat} {vals : Nat → V} {Sp : List Addr} {J : Nat → Shared → Prop} {Fn : Shared → Prop} {Q : Option Value → Shared → Prop} (hh : A.handled = none) (hroom : A.depth < recursionLimit) (K : JOk a g J Fn) (hj : j < n) (st : GSt prog w A g n vals Sp J Fn j s)
    (hQ : ∀ v s', RelV (vals j) v → GSt prog w A g n vals Sp J Fn (j + 1) s' → Same Sp s s' → Q (some v) s') : wpAny (model prog w) A (pyNext (.ref a)) Q E s := by
  obtain ⟨hJ, gs, hgs, hgo⟩ := st
  obtain ⟨m, hm⟩ : ∃ m, n - j = m + 1 := ⟨n - j - 1, by omega⟩
  rw [hm] at hgo
  refine GenW.wpAny_gsz (Nat.le_refl s.gens.size) (wpAny_pyNext_genexpQ (P := fun k s₀ s₁ => k = 0 ∧ (Same Sp s₀ s₁ ∧ Fn s₁)) hh (K.lim _ _ hJ) hroom (K.gen _ _ hJ) hgs (hgo _ (K.set _ _ _ rfl hJ)) (fun v s₁ gs' hb hv => ?_) (fun s₁ hp h' hk => absurd hp.1 (Nat.succ_ne_zero m)))
  obtain ⟨i, hi, hr, hS, hJ1, hkap⟩ := hv
  intro hsz
  obtain rfl : i = j := by omega
  have hgl : g < s₁.gens.size := by
    rw [GenW.setGen_size] at hsz
    exact Nat.lt_of_lt_of_le (Array.getElem?_eq_some_iff.mp hgs).1 hsz
  refine hQ v _ hr ⟨K.set _ _ _ hb hJ1, gs', by simp [Shared.setGen, hgl], fun s'' hs => ?_⟩ hS
  have e : n - (i + 1) = m := by omega
  rw [e]
  exact hkap s'' hs
theorem gst_done {a : Addr} {g n : Nat} {vals : Nat → V} {Sp : List Addr} {J : Nat → Shared → Prop} {Fn : Shared → Prop} {Q : Option Value → Shared → Prop} (hh : A.handled = none) (hroom : A.depth < recursionLimit) (K : JOk a g J Fn) (st : GSt prog w A g n vals Sp J Fn n s)
    (hQ : ∀ s', Fn s' → Same Sp s s' → Q none s') : wpAny (model prog w) A (pyNext (.ref a)) Q E s := by
  obtain ⟨hJ, gs, hgs, hgo⟩ := st
  rw [Nat.sub_self] at hgo
  refine wpAny_pyNext_genexpQ (P := fun k s₀ s₁ => k = 0 ∧ (Same Sp s₀ s₁ ∧ Fn s₁)) hh (K.lim _ _ hJ) hroom (K.gen _ _ hJ) hgs (hgo _ (K.set _ _ _ rfl hJ)) (fun v s₁ gs' hb hv => ?_) (fun s₁ hp h' hk => ?_)
  · obtain ⟨i, _, _, _, hJ1, hkap⟩ := hv
    exact (hkap s₁ hJ1).elim
  · exact hQ _ (K.fin _ _ hp.2.2 hk) fun b hb => let ⟨o, h1, h2⟩ := hp.2.1 b hb; ⟨o, h1, hk _ _ h2⟩
end
/-! ### consumers -/
section
variable {prog : Program} {w : World} {A : Around} {E : Value → Shared → Prop} {R : Result → Shared → Prop} {s : Shared} {a : Addr} {n : Nat} {vals : Nat → V} {St : Nat → Shared → Prop} {Fin : Shared → Prop}
theorem drop_at {n i : Nat} (h : i < n) : (List.range n).drop i = i :: (List.range n).drop (i + 1) := by
  rw [List.drop_eq_getElem_cons (by rw [List.length_range]; exact h), List.getElem_range]
theorem all_turns {f : Nat → Bool} (W : WG prog w A.in1 a n vals [] St Fin) (hv : ∀ i, vals i = .bl (f i)) : ∀ (k i : Nat) (s : Shared), n - i = k → i ≤ n → St i s → (∀ s', Fin s' → R (.ok (.ret (.bool (((List.range n).drop i).all f)))) s') → codeAny (model prog w) A (.builtin "all.loop" ⟨[.ref a], []⟩) R s := by
  intro k
  induction k with
  | zero =>
    intro i s hk hi st hR
    obtain rfl : i = n := by omega
    refine codeAny_builtin F.entry_all_loop (by
      rw [Around.under_plainId F.plain_all_loop _]
      show wpAny _ A.in1 (pyNext (.ref a) >>= _) _ _ s
      refine wpAny_bind (W.done s _ _ st fun s' hF _ => wpAny_bind (wpAny_rule (wpAny_pure ?_)))
      have q := hR s' hF
      rw [List.drop_of_length_le (by rw [List.length_range] <;> exact Nat.le_refl _)] at q
      exact q)
  | succ k ih =>
    intro i s hk hi st hR
    have hlt : i < n := by omega
    refine codeAny_builtin F.entry_all_loop (by
      rw [Around.under_plainId F.plain_all_loop _]
      show wpAny _ A.in1 (pyNext (.ref a) >>= _) _ _ s
      refine wpAny_bind (W.item i s _ _ hlt st fun v s' r st' _ => wpAny_bind (wpAny_holding ?_))
      rw [hv i] at r
      obtain rfl : v = .bool (f i) := r
      rw [drop_at hlt, List.all_cons] at hR
      refine wpAny_truthy_bool (wpAny_bind (wpAny_letGo ?_))
      cases hb : f i with
      | true =>
        rw [hb] at hR
        exact wpAny_pure ⟨plainId_quiet F.plain_all_loop _, ih (i + 1) s' (by omega) hlt st' hR⟩
      | false =>
        rw [hb] at hR
        exact wpAny_bind (wpAny_rule (wpAny_pure (hR s' (W.fin _ _ hlt st')))))
theorem any_turns {f : Nat → Bool} (W : WG prog w A.in1 a n vals [] St Fin) (hv : ∀ i, vals i = .bl (f i)) : ∀ (k i : Nat) (s : Shared), n - i = k → i ≤ n → St i s → (∀ s', Fin s' → R (.ok (.ret (.bool (((List.range n).drop i).any f)))) s') → codeAny (model prog w) A (.builtin "any.loop" ⟨[.ref a], []⟩) R s := by
  intro k
  induction k with
  | zero =>
    intro i s hk hi st hR
    obtain rfl : i = n := by omega
    refine codeAny_builtin F.entry_any_loop (by
      rw [Around.under_plainId F.plain_any_loop _]
      show wpAny _ A.in1 (pyNext (.ref a) >>= _) _ _ s
      refine wpAny_bind (W.done s _ _ st fun s' hF _ => wpAny_bind (wpAny_rule (wpAny_pure ?_)))
      have q := hR s' hF
      rw [List.drop_of_length_le (by rw [List.length_range] <;> exact Nat.le_refl _)] at q
      exact q)
  | succ k ih =>
    intro i s hk hi st hR
    have hlt : i < n := by omega
    refine codeAny_builtin F.entry_any_loop (by
      rw [Around.under_plainId F.plain_any_loop _]
      show wpAny _ A.in1 (pyNext (.ref a) >>= _) _ _ s
      refine wpAny_bind (W.item i s _ _ hlt st fun v s' r st' _ => wpAny_bind (wpAny_holding ?_))
      rw [hv i] at r
      obtain rfl : v = .bool (f i) := r
      rw [drop_at hlt, List.any_cons] at hR
      refine wpAny_truthy_bool (wpAny_bind (wpAny_letGo ?_))
      cases hb : f i with
      | false =>
        rw [hb] at hR
        exact wpAny_pure ⟨plainId_quiet F.plain_any_loop _, ih (i + 1) s' (by omega) hlt st' hR⟩
      | true =>
        rw [hb] at hR
        exact wpAny_bind (wpAny_rule (wpAny_pure (hR s' (W.fin _ _ hlt st')))))
theorem call_allG {f : Nat → Bool} {Q : Value → Shared → Prop} (W : WG prog w A.in1 a n vals [] St Fin) (hv : ∀ i, vals i = .bl (f i)) (st : St 0 s) (hQ : ∀ s', Fin s' → Q (.bool (allF n f)) s') : wpAny (model prog w) A (call (.builtin "all") [.ref a]) Q E s := by
  refine call_function_tree F.kind_all F.plain_all F.entry_all (F.args_all1 _) (by
    unfold Builtin.«all»
    refine wpAny_bind (m := oneArg "all" _) (wpAny_pure (wpAny_bind (W.self 0 s _ _ st ?_)))
    exact wpAny_pure ⟨plainId_quiet F.plain_all_loop _, all_turns W hv n 0 s rfl (Nat.zero_le _) st fun s' hF => by simpa [allF] using hQ s' hF⟩)
theorem call_anyG {f : Nat → Bool} {Q : Value → Shared → Prop} (W : WG prog w A.in1 a n vals [] St Fin) (hv : ∀ i, vals i = .bl (f i)) (st : St 0 s) (hQ : ∀ s', Fin s' → Q (.bool (anyF n f)) s') : wpAny (model prog w) A (call (.builtin "any") [.ref a]) Q E s := by
  refine call_function_tree F.kind_any F.plain_any F.entry_any (F.args_any1 _) (by
    unfold Builtin.«any»
    refine wpAny_bind (m := oneArg "any" _) (wpAny_pure (wpAny_bind (W.self 0 s _ _ st ?_)))
    exact wpAny_pure ⟨plainId_quiet F.plain_any_loop _, any_turns W hv n 0 s rfl (Nat.zero_le _) st fun s' hF => by simpa [anyF] using hQ s' hF⟩)
end
end LH
namespace LH
open PySem PySem.Spec PyProof.Rows L2 Evl LT LG
section
variable {X : Cx} {pins : List (Addr × Obj)} {σ : L2.St} {H : Hp} {s : Shared}
theorem inv_setGen {g : Nat} {x : GenState} (I : Inv X pins σ H s) (hx : x.bare = true) : Inv X pins σ H (s.setGen g x) :=
  ⟨I.ok, I.os, L2.allBare_setGen I.bare hx, I.base, I.loc, I.cell, I.free, I.freeC, I.pin, I.hok, I.len⟩
theorem pins_map {Sp : List Addr} {h : Heap} (hn : ∀ b ∈ Sp, ∃ o, h.get? b = some o ∧ ∀ v, o.data ≠ .cell v) : (pinsAt Sp h).map (·.1) = Sp := by
  induction Sp with
  | nil => rfl
  | cons b r ih =>
    obtain ⟨o, ho, _⟩ := hn b List.mem_cons_self
    have := ih fun c hc => hn c (List.mem_cons_of_mem _ hc)
    unfold pinsAt at this ⊢
    rw [List.filterMap_cons, ho]
    show b :: _ = _
    rw [this]
theorem inv_spec {Y : Cx} {p : Addr × Obj} {ps : List (Addr × Obj)} {Sp : List Addr} {τ : L2.St} {h' : Heap} {tk : Nat} (hpn : Y.pn = []) (hps : ps.map (·.1) = Sp) (hSp : ∀ b ∈ Sp, Y.s_0.heap.objs.size ≤ b ∧ b ≠ p.1) (I : Inv Y (p :: ps) τ H s)
    (k : ∀ b o, b ∉ Sp → s.heap.get? b = some o → h'.get? b = some o) (hn : ∀ b ∈ Sp, ∃ o, h'.get? b = some o ∧ ∀ v, o.data ≠ .cell v) : Inv Y (p :: pinsAt Sp h') τ H { s with heap := h', toks := tk } := by
  have pin : ∀ b ∈ Sp, H b = none ∧ b ≠ Y.env.locals ∧ b ∉ Y.fs ∧ ∃ o, s.heap.get? b = some o ∧ ∀ v, o.data ≠ .cell v := fun b hb => by
    rw [← hps] at hb
    obtain ⟨z, hz, rfl⟩ := List.mem_map.mp hb
    have y := I.pin z (List.mem_append_right _ (List.mem_cons_of_mem _ hz))
    exact ⟨y.2.1, y.2.2.1, y.2.2.2.1, z.2, y.1, y.2.2.2.2⟩
  have I1 : Inv Y [p] τ H s := I.pins_of fun q hq => I.pin q (List.mem_append_right _ (by rw [List.mem_singleton.mp hq]; exact List.mem_cons_self))
  have I2 := I1.turnedL (t' := tk) (ch := Sp) (h' := h') k fun b hb => ⟨(pin b hb).1, (pin b hb).2.1, (pin b hb).2.2.1, .inr (hSp b hb).1, fun x c e z => by
      obtain ⟨v, o', h1, h2⟩ := I.cell x c e
      obtain ⟨o, h3, h4⟩ := (pin b hb).2.2.2
      rw [z, h3] at h1
      cases h1
      exact h4 _ h2, fun q hq => by
      rw [hpn, List.nil_append] at hq
      rw [List.mem_singleton.mp hq]
      exact (hSp b hb).2.symm⟩
  refine I2.pins_of fun q hq => ?_
  rcases List.mem_cons.mp hq with rfl | hq
  · exact I2.pin _ (List.mem_append_right _ List.mem_cons_self)
  · obtain ⟨hb, e⟩ := of_pinsAt hq
    obtain ⟨o, h1, h2⟩ := hn _ hb
    rw [e] at h1
    cases h1
    exact ⟨e, (pin _ hb).1, (pin _ hb).2.1, (pin _ hb).2.2.1, h2⟩
section
variable {Y : Cx} {a : Addr} {oa : Obj} {τ : L2.St} {fp : List Addr} {tn : Nat → Heap → Prop} {W : Nat → Hp → Prop} {Sp : List Addr} {i n g : Nat} {J : It} {tg : Expr} {it : Addr}
theorem btw_upd {h' : Heap} {tk : Nat} (T : Turn Y.prog Y.w Y.K tg J fp it tn) (hpn : Y.pn = []) (hSp : ∀ b ∈ Sp, Y.s_0.heap.objs.size ≤ b ∧ b ≠ a) (B : Btw Y a oa τ fp tn W Sp i s) (k : ∀ b o, b ∉ Sp → s.heap.get? b = some o → h'.get? b = some o) (hn : ∀ b ∈ Sp, ∃ o, h'.get? b = some o ∧ ∀ v, o.data ≠ .cell v) :
    Btw Y a oa τ fp tn W Sp i { s with heap := h', toks := tk } := by
  obtain ⟨H', ps, hps, I, st, hf, w⟩ := B
  have nf : ∀ b ∈ fp, b ∉ Sp := fun b hb z => by
    rw [← hps] at z
    obtain ⟨q, hq, e⟩ := List.mem_map.mp z
    exact (hf b hb).2.2.2.2.2 q (List.mem_append_right _ (List.mem_cons_of_mem _ hq)) e
  refine ⟨H', _, pins_map hn, inv_spec hpn hps hSp I k hn, T.keep _ _ _ st fun b hb o e => k b o (nf b hb) e, fun b hb => ⟨(hf b hb).1, (hf b hb).2.1, (hf b hb).2.2.1, (hf b hb).2.2.2.1, (hf b hb).2.2.2.2.1, fun q hq e => ?_⟩, w⟩
  rw [hpn, List.nil_append] at hq
  rcases List.mem_cons.mp hq with rfl | hq
  · exact (hf b hb).2.2.2.2.2 (a, oa) (List.mem_append_right _ List.mem_cons_self) e
  · exact nf b hb (e ▸ (of_pinsAt hq).1)
theorem gone_upd {h' : Heap} {tk : Nat} (hpn : Y.pn = []) (hSp : ∀ b ∈ Sp, Y.s_0.heap.objs.size ≤ b ∧ b ≠ a) (B : Gone Y a oa τ W n Sp s) (k : ∀ b o, b ∉ Sp → s.heap.get? b = some o → h'.get? b = some o) (hn : ∀ b ∈ Sp, ∃ o, h'.get? b = some o ∧ ∀ v, o.data ≠ .cell v) :
    Gone Y a oa τ W n Sp { s with heap := h', toks := tk } := by
  obtain ⟨H', ps, i, hi, hps, I, w⟩ := B
  exact ⟨H', _, i, hi, pins_map hn, inv_spec hpn hps hSp I k hn, w⟩
theorem jok (hG : ∀ h : Heap, h.get? a = some oa → h.IsGen a g) : JOk a g (Btw Y a oa τ fp tn W Sp) (Gone Y a oa τ W n Sp) :=
  ⟨fun j s ⟨_, _, _, I, _⟩ => hG _ (I.pin (a, oa) (List.mem_append_right _ List.mem_cons_self)).1, fun j s ⟨_, _, _, I, _⟩ => I.nolimit, fun j s x hx ⟨H', ps, hps, I, r⟩ => ⟨H', ps, hps, inv_setGen I hx, r⟩,
    fun s h' ⟨H', ps, i, hi, hps, I, w⟩ k => by
      have J := (inv_setGen (g := g) (x := .finished) I rfl).kept (t' := s.toks) (h' := h') k
      refine ⟨H', ps, i, hi, hps, ?_, w⟩
      exact J.pins_of fun q hq => by
        have z := I.pin q (List.mem_append_right _ hq)
        exact ⟨k _ _ z.1, z.2⟩⟩
end
/-- the generator at a: for any consumer -/
def RdyX (X : Cx) (pins : List (Addr × Obj)) (σ : L2.St) (n : Nat) (vals : Nat → V) (QF : Hp → Prop) (a : Addr) (s5 : Shared) : Prop :=
  ∃ (St : List Addr → Nat → Shared → Prop) (Fin : List Addr → Shared → Prop), (∀ Sp, (∀ b ∈ Sp, s5.heap.objs.size ≤ b) → WG X.prog X.w X.A.in1 a n vals Sp (St Sp) (Fin Sp)) ∧
    (∀ Sp h' tk, (∀ b ∈ Sp, s5.heap.objs.size ≤ b) → (∀ b o, s5.heap.get? b = some o → h'.get? b = some o) → (∀ b ∈ Sp, ∃ o, h'.get? b = some o ∧ ∀ v, o.data ≠ .cell v) → St Sp 0 { s5 with heap := h', toks := tk }) ∧ ∀ Sp s', Fin Sp s' → ∃ H', Inv X pins σ H' s' ∧ QF H'
/-- (.. for t in e), handed to a consumer that makes r of what comes -/
def tGX (P : Addr) (ok : Nat → (Nat → V) → V → Prop) (wi : TI) (g : TG) (te : TE) (vs : List Nat) : TE := fun σ H Q => wi σ H fun J H1 => Tab H1 P ∧ ∃ (n : Nat) (vals : Nat → V) (r : V) (W : Nat → Hp → Prop), ok n vals r ∧ W 0 H1 ∧
  (∀ i H', i < n → W i H' → J.go i H' ∧ ∀ x H2, J.yld i H' x H2 → g x (wipe σ vs) H2 fun σ2 H3 => wipe σ2 vs = wipe σ vs ∧ te σ2 H3 fun y H4 => y = vals i ∧ W (i + 1) H4) ∧ (∀ H', W n H' → J.stop n H') ∧ ∀ i H', i ≤ n → W i H' → Q r H'
structure GenX (env : Env) (scope : Scope) : Prop where
  co : scope.isCoroutine = false
  cell : ∀ y ∈ scope.names, y.2 ≠ .cell
  dot : scope.names.lookup (".0" : Str) = some NameKind.local
theorem gen_makeX {c P : Addr} {elt tg iter : Expr} {scope : Scope} {own : List (Str × Nat)} {gpos : Pos} {wi : TI} {g : TG} {te : TE} {k : Nat} {Q : VK} {Q' : Value → Shared → Prop} {okc : Nat → (Nat → V) → V → Prop} (hr : Room (k + 1) X.A) (hN : X.N.Nodup) (TB : LamX.TabB X.base X.mg c P) (hcode : X.env.code = .ref c) (S : GenX X.env scope) (ok : BlkOk X.N X.env.scope scope own)
    (hi : PI X tg iter wi) (hs : ∀ v, genFold iter X.env v = pure v) (hg : ∀ (A' : Around) (s : Shared) (H : Hp) (C : Addr) (code : Value) (fp : List Addr), Room k A' → PG (gnb X A' s H (gnE X scope C code) fp) tg g) (he : ∀ (A' : Around) (s : Shared) (H : Hp) (C : Addr) (code : Value) (fp : List Addr), Room k A' → PE (gnb X A' s H (gnE X scope C code) fp) elt te)
    (I : Inv X pins σ H s) (h : tGX P okc wi g te (own.map (·.2)) σ H Q)
    (hQ : ∀ n vals r (W : Nat → Hp → Prop) a s5, okc n vals r → (∀ i H', i ≤ n → W i H' → Q r H') → RdyX X pins σ n vals (fun H' => ∃ i, i ≤ n ∧ W i H') a s5 → Q' (.ref a) s5) :
    wpAny (model X.prog X.w) X.A (eval (.GeneratorExp elt [⟨tg, iter, [], 0⟩] scope gpos) X.env) Q' X.xe s := by
  have hfree : ∀ y ∈ scope.names, y.2 = .free → ∃ c, X.env.cells.lookup y.1 = some c := fun y hy e => (ok.free y hy e).elim (fun k => I.ok.has _ (.inl k)) fun k => I.ok.has _ (.inr k)
  refine wpAny_GeneratorExp_make S.co (closure_ok hfree) S.cell S.dot ok.kind (by have := hr.dp; omega) (thn (hi.run pins s σ H _ I h) fun xv s1 h1 => thn h1 fun itv s2 h2 => ?_) hs
  obtain ⟨it, fp, tn, J, H2, rfl, I2, T, st2, f2, hT, n, vals, r, W, hok, w0, turn, stop, fin⟩ := h2
  refine ⟨I2.nolimit, ?_⟩
  obtain ⟨ps, hPs, ht⟩ := hT.of_ok I2.hok
  have cd : PySem.W.CodeHd s2.heap c P := TB.code.keeps fun b u e => I2.bk b u e
  have fpP : ∀ b ∈ fp, b ≠ P := fun b hb z => by
    have q := (f2 b hb).1
    rw [z, hT] at q
    cases q
  have go : ∀ (code : Value) (h3 : Heap) (tk : Nat) (ps' : Array Value), (∀ b o, b ≠ P → s2.heap.get? b = some o → h3.get? b = some o) → s2.heap.objs.size ≤ h3.objs.size → h3.get? P = some { cls := .none, data := .fields ps' } → TriplesOk ps'.toList →
      wpAny (model X.prog X.w) X.A (builtinsFor X.env.globals X.env.builtins) (fun bi s₄ => ∀ h', h'.Ns s₄.heap.objs.size (fun y => if y = ".0" then some (.ref it) else none) → Heap.SameBut s₄.heap.objs.size (s₄.heap.push { cls := .type "frame", data := .dict #[] }) h' →
          Q' (.ref h'.objs.size) { s₄ with
            gens := s₄.gens.push (.fresh (.compStart (.GeneratorExp elt [⟨tg, iter, [], 0⟩] scope gpos) 0 (.ref it) .none (genEnv scope (cloFrom X.env.cells scope.names []) s₄.heap.objs.size code bi X.env))),
            toks := s₄.toks + 1 + 1 + 1,
            heap := h'.push { cls := .type "generator", data := .fields #[.int s₄.gens.size 0, .str "<genexpr>" (s₄.toks + 1), .str (X.env.qual ++ "<genexpr>") (s₄.toks + 1 + 1)] } }) X.xe { s2 with heap := h3, toks := tk } := by
    intro code h3 tk ps' hx hsz hP3 ht3
    have I3 : Inv X pins σ H2 { s2 with heap := h3, toks := tk } := inv_grown I2 hT hx ⟨ps', hP3, ht3⟩ rfl I2.bare
    obtain ⟨bm, ob, e1, e2, e3, e4, e5, e6, e7, e8⟩ := TB.bm
    refine wpAny_builtinsFor (m := X.mg) (by rw [I3.ok.glob]; exact I3.mod.glob.keeps I3.bk) e1 e2 (hx _ _ e4 (I2.bk _ _ e5)) e6 e7 e8 ?_
    generalize hs3 : ({ s2 with heap := h3, toks := tk } : Shared) = s3 at I3 ⊢
    have hh3 : s3.heap = h3 := by rw [← hs3]
    intro h' hn' hs'
    have hsz' : h'.objs.size = s3.heap.objs.size + 1 := by rw [hs'.1, Heap.size_push]
    have keep' : ∀ b o, s3.heap.get? b = some o → h'.get? b = some o := fun b o e => hs'.extBut b o (Nat.ne_of_lt (Heap.lt_size e)) (Heap.get?_push_of_some _ e)
    generalize hoa : ({ cls := .type "generator", data := .fields #[.int s3.gens.size 0, .str "<genexpr>" (s3.toks + 1), .str (X.env.qual ++ "<genexpr>") (s3.toks + 1 + 1)] } : Obj) = oa
    have keep5 : ∀ b o, s3.heap.get? b = some o → (h'.push oa).get? b = some o := fun b o e => Heap.get?_push_of_some _ (keep' b o e)
    have hG : ∀ h : Heap, h.get? h'.objs.size = some oa → h.IsGen h'.objs.size s3.gens.size := fun h e => ⟨oa, _, _, e, by rw [← hoa], by rw [← hoa], by rw [← hoa]⟩
    have goa : (h'.push oa).get? h'.objs.size = some oa := Heap.get?_push_size _ (by rw [← hoa]; rfl)
    have noC : ∀ v, oa.data ≠ .cell v := fun v => by rw [← hoa]; intro z; cases z
    have nstk : ∀ b, s3.heap.objs.size ≤ b → b ∉ frs X.stack := fun b hb z => by
      rcases List.mem_cons.mp (I3.stkSub b z) with z | z
      · have := I3.lt
        rw [← z] at this
        exact Nat.lt_irrefl _ (Nat.lt_of_lt_of_le this hb)
      · exact I3.nofs hb z
    have f3 : ∀ b ∈ fp, FpOk X pins H2 b ∧ b < s3.heap.objs.size := fun b hb => by
      obtain ⟨o, e, _⟩ := T.obj _ _ st2 b hb
      exact ⟨f2 b hb, by rw [hh3]; exact Heap.lt_size (hx b o (fpP b hb) e)⟩
    have hA1 : (X.A.in4.in1.over (.compLoop (.GeneratorExp elt [⟨tg, iter, [], 0⟩] scope gpos) 0 (.ref it) .none (gnE X scope s3.heap.objs.size code)) []).handled = none := hr.hd
    have hfr1 : (X.A.in4.in1.over (.compLoop (.GeneratorExp elt [⟨tg, iter, [], 0⟩] scope gpos) 0 (.ref it) .none (gnE X scope s3.heap.objs.size code)) []).frames = some (gnE X scope s3.heap.objs.size code :: X.stack) := by
      show pushEnvs [_] (pushEnvs [] X.A.frames) = _
      rw [I3.ok.frames]
      rfl
    have hrm : Room k (X.A.in4.in1.over (.compLoop (.GeneratorExp elt [⟨tg, iter, [], 0⟩] scope gpos) 0 (.ref it) .none (gnE X scope s3.heap.objs.size code)) []) :=
      ⟨hr.hd, by have := hr.dp; show X.A.depth + 0 + 1 + 3 * k + 5 < _; omega, by have := hr.un; show X.A.units + 1 + 1 + 1 + 1 + 1 + 0 + 3 + 16 * k + 200 < _; omega⟩
    generalize hA' : X.A.in4.in1.over (.compLoop (.GeneratorExp elt [⟨tg, iter, [], 0⟩] scope gpos) 0 (.ref it) .none (gnE X scope s3.heap.objs.size code)) [] = A' at hA1 hfr1 hrm
    have pg := hg A' s3 H2 s3.heap.objs.size code fp hrm
    have pe := he A' s3 H2 s3.heap.objs.size code fp hrm
    have turns := fun (Sp : List Addr) => seg_turns (A₁ := X.A.in4.in1) (Y := gnb X A' s3 H2 (gnE X scope s3.heap.objs.size code) fp) (pos := gpos) (iter := iter) (scope := scope) (it := it) (a := h'.objs.size) (oa := oa) (Sp := Sp) (σ := σ) (vs := own.map (·.2)) hA'.symm rfl rfl rfl S.co T pg pe turn stop
    have begin_ : ∀ {h'' : Heap} {g' : Array GenState} {t' : Nat}, (∀ b o, (h'.push oa).get? b = some o → h''.get? b = some o) → AllBare g' → Inv (gnb X A' s3 H2 (gnE X scope s3.heap.objs.size code) fp) [] (wipe σ (own.map (·.2))) H2 { s3 with heap := h'', gens := g', toks := t' } := fun {h'' g' t'} k1 k2 =>
      gen_begin I3 ok S.cell hN f3 hA1 hfr1 (fun b o e => k1 b o (keep5 b o e)) (hn'.keeps fun b o e => k1 b o (Heap.get?_push_of_some _ e)) k2
    refine hQ n vals r W _ _ hok fin ⟨fun Sp => GSt X.prog X.w X.A.in4 s3.gens.size n vals Sp (Btw (gnb X A' s3 H2 (gnE X scope s3.heap.objs.size code) fp) h'.objs.size oa (wipe σ (own.map (·.2))) fp tn W Sp) (Gone (gnb X A' s3 H2 (gnE X scope s3.heap.objs.size code) fp) h'.objs.size oa (wipe σ (own.map (·.2))) W n Sp),
      fun Sp => Gone (gnb X A' s3 H2 (gnE X scope s3.heap.objs.size code) fp) h'.objs.size oa (wipe σ (own.map (·.2))) W n Sp, fun Sp hSp => ?_, fun Sp h'' tk' hSp hk hn => ?_, fun Sp s' hF => ?_⟩
    · have hSp' : ∀ b ∈ Sp, s3.heap.objs.size ≤ b ∧ b ≠ h'.objs.size := fun b hb => by
        have := hSp b hb
        rw [Heap.size_push] at this
        have h1 : s3.heap.objs.size ≤ h'.objs.size := by rw [hsz']; exact Nat.le_succ _
        exact ⟨Nat.le_trans h1 (Nat.le_of_succ_le this), fun e => by rw [e] at this; exact Nat.lt_irrefl _ this⟩
      have W4 : WG X.prog X.w X.A.in4 h'.objs.size n vals Sp (GSt X.prog X.w X.A.in4 s3.gens.size n vals Sp (Btw (gnb X A' s3 H2 (gnE X scope s3.heap.objs.size code) fp) h'.objs.size oa (wipe σ (own.map (·.2))) fp tn W Sp) (Gone (gnb X A' s3 H2 (gnE X scope s3.heap.objs.size code) fp) h'.objs.size oa (wipe σ (own.map (·.2))) W n Sp)) (Gone (gnb X A' s3 H2 (gnE X scope s3.heap.objs.size code) fp) h'.objs.size oa (wipe σ (own.map (·.2))) W n Sp) :=
        ⟨fun i s Q E hi st hQ => gst_item hr.hd (by have := hr.dp; show X.A.depth < _; omega) (jok hG) hi st hQ, fun s Q E st hQ => gst_done hr.hd (by have := hr.dp; show X.A.depth < _; omega) (jok hG) st hQ, fun i s Q E st hQ => wpAny_pyIter_gen ((jok (n := n) hG).gen _ _ st.1) hQ,
          fun i s hi st => let ⟨⟨H', ps, hps, I, _, _, w⟩, _⟩ := st; ⟨H', ps, i, hi, hps, I, w⟩, fun i s h'' tk' st k1 k2 => ⟨btw_upd T rfl hSp' st.1 k1 k2, st.2⟩, fun s h'' tk' st k1 k2 => gone_upd rfl hSp' st k1 k2⟩
      exact (W4.of_in1).of_in1.of_in1
    · have hlt : ∀ b ∈ Sp, s3.heap.objs.size ≤ b ∧ b ≠ h'.objs.size := fun b hb => by
        have := hSp b hb
        rw [Heap.size_push] at this
        have h1 : s3.heap.objs.size ≤ h'.objs.size := by rw [hsz']; exact Nat.le_succ _
        exact ⟨Nat.le_trans h1 (Nat.le_of_succ_le this), fun e => by rw [e] at this; exact Nat.lt_irrefl _ this⟩
      have ale : s3.heap.objs.size ≤ h'.objs.size := by rw [hsz']; exact Nat.le_succ _
      have I5 := begin_ (t' := tk') hk (I3.bare.push (g := .fresh (.compStart (.GeneratorExp elt [⟨tg, iter, [], 0⟩] scope gpos) 0 (.ref it) .none (gnE X scope s3.heap.objs.size code))) rfl)
      have J0 : Btw (gnb X A' s3 H2 (gnE X scope s3.heap.objs.size code) fp) h'.objs.size oa (wipe σ (own.map (·.2))) fp tn W Sp 0 { s3 with heap := h'', gens := s3.gens.push (.fresh (.compStart (.GeneratorExp elt [⟨tg, iter, [], 0⟩] scope gpos) 0 (.ref it) .none (gnE X scope s3.heap.objs.size code))), toks := tk' } := by
        refine ⟨H2, _, pins_map hn, I5.pins_of fun q hq => ?_, T.keep _ _ _ st2 fun b hb o e => hk _ _ (keep5 _ _ (by rw [hh3]; exact hx b o (fpP b hb) e)), fun b hb => ⟨(f2 b hb).1, Nat.ne_of_lt (f3 b hb).2, fun z => ?_, .inl hb, fun y c' e => (f2 b hb).2.2.2.2.1 y c' (clo_back hfree e).2, fun q hq e => ?_⟩, w0⟩
        · rcases List.mem_cons.mp hq with rfl | hq
          · exact ⟨hk _ _ goa, I3.hok.fresh ale, fun z => by
              have : h'.objs.size = s3.heap.objs.size := z
              rw [hsz'] at this
              exact Nat.succ_ne_self _ this, nstk _ ale, noC⟩
          · obtain ⟨hb, e⟩ := of_pinsAt hq
            obtain ⟨o, h1, h2⟩ := hn _ hb
            rw [e] at h1
            cases h1
            refine ⟨e, I3.hok.fresh (hlt _ hb).1, fun z => ?_, nstk _ (hlt _ hb).1, h2⟩
            have z : q.1 = s3.heap.objs.size := z
            have := hSp _ hb
            rw [Heap.size_push, hsz', z] at this
            exact Nat.lt_irrefl _ (Nat.lt_of_succ_lt this)
        · rcases List.mem_cons.mp (I3.stkSub b z) with z | z
          · exact (f2 b hb).2.1 z
          · exact (f2 b hb).2.2.1 z
        · have lt := (f3 b hb).2
          rcases List.mem_cons.mp (show q ∈ _ :: pinsAt Sp h'' from hq) with rfl | hq
          · have e : h'.objs.size = b := e
            rw [← e] at lt
            exact Nat.lt_irrefl _ (Nat.lt_of_lt_of_le lt ale)
          · have := (hlt _ (of_pinsAt hq).1).1
            rw [e] at this
            exact Nat.lt_irrefl _ (Nat.lt_of_lt_of_le lt this)
      refine ⟨J0, _, Array.getElem?_push_size .., fun s'' hJ => ⟨rfl, ?_⟩⟩
      have loop := turns Sp n 0 s'' s'' (Nat.sub_zero _) (Nat.zero_le _) (fun b hb => by
        obtain ⟨H3, qs, hqs, I6, _⟩ := hJ
        rw [← hqs] at hb
        obtain ⟨z, hz, rfl⟩ := List.mem_map.mp hb
        have y := (I6.pin z (List.mem_append_right _ (List.mem_cons_of_mem _ hz))).1
        exact ⟨z.2, y, y⟩) hJ
      show Seg _ _ _ _ _ s'' _ ((compStart (.GeneratorExp elt [⟨tg, iter, [], 0⟩] scope gpos) 0 (.ref it) .none (gnE X scope s3.heap.objs.size code)).onRaise (leaving (gnE X scope s3.heap.objs.size code))) [] s''
      unfold compStart; rw [Sem.onRaise_eq_wrap]
      refine seg_bind_wrap (m := ask) (wpAny_askSetting ?_)
      obtain ⟨_, _, _, I6, st6, _⟩ := id hJ
      split
      · exact seg_again rfl loop
      · exact seg_bind_wrap (wpAny_rule (seg_bind_wrap (wpAny_standAt (seg_bind_wrap (T.self _ 0 s'' _ _ st6 (seg_again rfl loop))))))
    · obtain ⟨H', qs, i, hi, hqs, I6, w⟩ := hF
      exact ⟨H', I3.call' (ch := fp) I6.os I6.base I6.hok I6.bare fun b hb => ⟨(f2 b hb).2.2.2.1, (f2 b hb).2.1, (f2 b hb).2.2.2.2.1, (f2 b hb).2.2.2.2.2⟩, i, hi, w⟩
  cases hf : codeAmong gpos ps.toList with
  | some cv => exact wpAny_genexprCode_hit hcode (cd.code hPs ht) hf (go cv s2.heap s2.toks ps (fun _ _ _ e => e) (Nat.le_refl _) hPs ht)
  | none =>
    refine wpAny_genexprCodeX hcode (cd.code hPs ht) (cd.tab hPs) hf fun c' h3 tk hx hge hlt hco' _ htab' _ => ?_
    obtain ⟨_, _, _, _, _, _, _, _, _, _, _, _, _, _, _, _, _, _, _, htr, _⟩ := hco'
    exact go _ h3 tk _ hx (Nat.le_trans hge (Nat.le_of_lt hlt)) htab'.2 htr
end
end LH

set_option Elab.async false
set_option linter.all false
set_option maxRecDepth 100000
set_option maxHeartbeats 4000000
namespace LH
open PySem PySem.Spec PyProof.Rows L2 Evl LT LG
section
variable {prog : Program} {w : World} {A : Around} {E : Value → Shared → Prop} {R : Result → Shared → Prop} {s : Shared} {a S : Addr} {n : Nat} {vals : Nat → V} {St : Nat → Shared → Prop} {Fin : Shared → Prop} {val : Nat → Int}
abbrev accO (us : Array Value) (c : Nat) : Obj := { cls := .type "list", dict := none, data := .seq us c, slots := #[] }
theorem same_at {s s' : Shared} {o : Obj} (h : Same [S] s s') (e : s.heap.get? S = some o) : s'.heap.get? S = some o := by
  obtain ⟨o', h1, h2⟩ := h S (List.mem_singleton.mpr rfl)
  rw [e] at h1
  cases h1
  exact h2
theorem upd_keeps {h : Heap} {f : Obj → Obj} : ∀ b o, b ∉ [S] → h.get? b = some o → (h.update S f).get? b = some o := fun b o hb e =>
  (Heap.get?_update_other _ _ fun z : S = b => hb (List.mem_singleton.mpr z.symm)).trans e
theorem sum_turns (W : WG prog w A.in1 a n vals [S] St Fin) (hv : ∀ i, vals i = .int (val i)) (hfit : ∀ j, j < n → InLong (val j) ∧ InLong (preSum val (j + 1))) : ∀ (k i : Nat) (s : Shared) (tA : Tok) (c : Nat), n - i = k → i ≤ n → St i s → s.heap.get? S = some (accO #[.int (preSum val i) tA] c) →
    (∀ s' t', Fin s' → R (.ok (.ret (.int (preSum val n) t'))) s') → codeAny (model prog w) A (.builtin "sum.loop" ⟨[.ref a, .ref S, rawInt 0, rawInt 0], []⟩) R s := by
  intro k
  induction k with
  | zero =>
    intro i s tA c hk hi st hS hR
    obtain rfl : i = n := by omega
    refine codeAny_builtin F.entry_sum_loop (by
      rw [Around.under_plainId F.plain_sum_loop _]
      show wpAny _ A.in1 (seqItems? (.ref S) >>= _) _ _ s
      refine wpAny_bind (wpAny_seqItems hS rfl (show wpAny _ A.in1 (tryCatch (pyNext (.ref a)) _ >>= _) _ _ s from ?_))
      exact wpAny_bind (wpAny_tryCatch (W.done s _ _ st fun s' hF _ => wpAny_pure (hR s' tA hF))))
  | succ k ih =>
    intro i s tA c hk hi st hS hR
    have hlt : i < n := by omega
    refine codeAny_builtin F.entry_sum_loop (by
      rw [Around.under_plainId F.plain_sum_loop _]
      show wpAny _ A.in1 (seqItems? (.ref S) >>= _) _ _ s
      refine wpAny_bind (wpAny_seqItems hS rfl (show wpAny _ A.in1 (tryCatch (pyNext (.ref a)) _ >>= _) _ _ s from ?_))
      refine wpAny_bind (wpAny_tryCatch (W.item i s _ _ hlt st fun v s' r st' sm => ?_))
      rw [hv i] at r
      obtain ⟨t, rfl⟩ := r
      have hS' := same_at sm hS
      obtain ⟨⟨f1, f2⟩, f3, f4⟩ := hfit i hlt
      have hc : ((decide (-(2 ^ 63) ≤ val i) && decide (val i < 2 ^ 63)) && (decide (-(2 ^ 63) ≤ preSum val i + val i) && decide (preSum val i + val i < 2 ^ 63))) = true := by
        simp only [preSum] at f3 f4
        simp only [Bool.and_eq_true, decide_eq_true_eq]
        exact ⟨⟨f1, f2⟩, f3, f4⟩
      show wpAny _ A.in1 (if (_ : Bool) = true then (mkInt (preSum val i + val i) >>= _) else _) _ _ _
      split
      · refine wpAny_bind (wpAny_mkInt (show wpAny _ A.in1 (updateSeq S (fun _ => #[.int (preSum val i + val i) s'.toks]) >>= _) _ _ _ from wpAny_bind ?_))
        refine wpAny_updateSeq hS' rfl (wpAny_pure ⟨plainId_quiet F.plain_sum_loop _, ih (i + 1) _ s'.toks _ (by omega) hlt (W.upd _ s' _ _ st' upd_keeps fun b hb => ?_) (Heap.get?_update_self _ hS' rfl) hR⟩)
        rw [List.mem_singleton.mp hb]
        exact ⟨_, Heap.get?_update_self _ hS' rfl, fun v z => nomatch z⟩
      · rename_i hneg
        exact absurd hc hneg)
/-- the greatest so far -/
def topI (val : Nat → Int) : Nat → Int
  | 0 => val 0
  | k + 1 => if val (k + 1) > topI val k then val (k + 1) else topI val k
theorem max_turns (W : WG prog w A.in1 a n vals [S] St Fin) (hv : ∀ i, vals i = .int (val i)) : ∀ (k j : Nat) (s : Shared) (t : Tok) (c : Nat), n - (j + 1) = k → j + 1 ≤ n → St (j + 1) s → s.heap.get? S = some (accO #[.int (topI val j) t, .int (topI val j) t] c) →
    (∀ s' t', Fin s' → R (.ok (.ret (.int (topI val (n - 1)) t'))) s') → codeAny (model prog w) A (.builtin "max.loop" ⟨[.ref a, .none, .ref S], []⟩) R s := by
  have hname : (toString "max" ++ toString ".loop" : String) = "max.loop" := by decide
  intro k
  induction k with
  | zero =>
    intro j s t c hk hj st hS hR
    have hin : j + 1 = n := by omega
    refine codeAny_builtin F.entry_max_loop (by
      rw [Around.under_plainId F.plain_max_loop _]
      show wpAny _ A.in1 (seqItems? (.ref S) >>= _) _ _ s
      refine wpAny_bind (wpAny_seqItems hS rfl (show wpAny _ A.in1 (tryCatch (pyNext (.ref a)) _ >>= _) _ _ s from ?_))
      refine wpAny_bind (wpAny_tryCatch (W.done s _ _ (hin ▸ st) fun s' hF sm => ?_))
      have hS' := same_at sm hS
      show wpAny _ A.in1 (updateSeq S (fun _ => #[]) >>= _) _ _ _
      refine wpAny_bind (wpAny_updateSeq hS' rfl (wpAny_bind (wpAny_letGo (wpAny_pure ?_))))
      have q := hR { s' with heap := s'.heap.update S (Obj.mapSeq fun _ => #[]) } t (W.finU s' _ s'.toks hF upd_keeps fun b hb => by
        rw [List.mem_singleton.mp hb]
        exact ⟨_, Heap.get?_update_self _ hS' rfl, fun v z => nomatch z⟩)
      rw [← hin] at q
      exact q)
  | succ k ih =>
    intro j s t c hk hj st hS hR
    have hlt : j + 1 < n := by omega
    refine codeAny_builtin F.entry_max_loop (by
      rw [Around.under_plainId F.plain_max_loop _]
      show wpAny _ A.in1 (seqItems? (.ref S) >>= _) _ _ s
      refine wpAny_bind (wpAny_seqItems hS rfl (show wpAny _ A.in1 (tryCatch (pyNext (.ref a)) _ >>= _) _ _ s from ?_))
      refine wpAny_bind (wpAny_tryCatch (W.item (j + 1) s _ _ hlt st fun v s' r st' sm => ?_))
      rw [hv (j + 1)] at r
      obtain ⟨t1, rfl⟩ := r
      have hS' := same_at sm hS
      show wpAny _ A.in1 (tryCatch (holding [Value.int (val (j + 1)) t1, Value.int (val (j + 1)) t1] (richCompare .Gt (Value.int (val (j + 1)) t1) (Value.int (topI val j) t) >>= _)) _ >>= _) _ _ _
      refine wpAny_bind (wpAny_tryCatch (wpAny_holding (wpAny_bind (gt_int (wpAny_bind (wpAny_holding (wpAny_truthy_bool (wpAny_bind (wpAny_letGo (wpAny_pure ?_))))))))))
      by_cases hb : val (j + 1) > topI val j
      · rw [decide_eq_true hb]
        simp only [if_true]
        refine wpAny_bind (wpAny_updateSeq hS' rfl (wpAny_bind (wpAny_letGo ?_)))
        rw [hname]
        refine wpAny_pure ⟨plainId_quiet F.plain_max_loop _, ih (j + 1) _ t1 _ (by omega) hlt (W.upd _ s' _ s'.toks st' upd_keeps fun b hb => ?_) (by
          have e : topI val (j + 1) = val (j + 1) := if_pos hb
          rw [e]
          exact Heap.get?_update_self _ hS' rfl) hR⟩
        rw [List.mem_singleton.mp hb]
        exact ⟨_, Heap.get?_update_self _ hS' rfl, fun v z => nomatch z⟩
      · rw [decide_eq_false hb]
        simp only [Bool.false_eq_true, if_false]
        refine wpAny_bind (wpAny_letGo ?_)
        rw [hname]
        refine wpAny_pure ⟨plainId_quiet F.plain_max_loop _, ih (j + 1) _ t c (by omega) hlt st' (by
          have e : topI val (j + 1) = topI val j := if_neg hb
          rw [e]
          exact hS') hR⟩)
end
end LH
namespace LH
open PySem PySem.Spec PyProof.Rows L2 Evl LT LG
section
variable {prog : Program} {w : World} {A : Around} {E : Value → Shared → Prop} {s : Shared} {a : Addr} {n : Nat} {vals : Nat → V} {val : Nat → Int} {Q : Value → Shared → Prop}
theorem call_sumG (hW : ∀ S, s.heap.objs.size ≤ S → ∃ (St : Nat → Shared → Prop) (Fin : Shared → Prop), WG prog w A.in1 a n vals [S] St Fin ∧ (∀ h' tk, (∀ b o, s.heap.get? b = some o → h'.get? b = some o) → (∃ o, h'.get? S = some o ∧ ∀ v, o.data ≠ .cell v) → St 0 { s with heap := h', toks := tk }) ∧ ∀ s' t', Fin s' → Q (.int (preSum val n) t') s')
    (hself : wpAny (model prog w) A.in1 (pyIter (.ref a)) (fun u s' => u = .ref a ∧ s' = s) E s) (hv : ∀ i, vals i = .int (val i)) (hfit : ∀ j, j < n → InLong (val j) ∧ InLong (preSum val (j + 1))) : wpAny (model prog w) A (call (.builtin "sum") [.ref a]) Q E s := by
  refine call_function_tree F.kind_sum F.plain_sum F.entry_sum (F.args_sum1 _) (by
    unfold Builtin.«sum»
    simp only [List.length_cons, List.length_nil]; rw [if_neg (by decide)]
    refine wpAny_bind (wpAny_of_eq (show Builtin.Builtins.bindParams "sum" ["start"] 0 { } = pure [none] from rfl) (wpAny_bind (wpAny_mono hself (fun u s' h => ?_) fun _ _ e => e)))
    obtain ⟨rfl, rfl⟩ := h
    refine wpAny_bind (wpAny_mkInt (wpAny_bind (wpAny_pure ?_)))
    simp only [List.forIn_cons, List.forIn_nil]
    refine wpAny_bind (wpAny_bind (wpAny_bind (wpAny_isInstance (T := "int") (b := false) (typeIs_int _ _ _) PySem.sub_int_str (by
      simp only [Bool.false_eq_true, if_false]
      refine wpAny_pure (wpAny_bind (wpAny_bind (wpAny_isInstance (T := "int") (b := false) (typeIs_int _ _ _) PySem.sub_int_bytes (by
        simp only [Bool.false_eq_true, if_false]
        refine wpAny_pure (wpAny_bind (wpAny_bind (wpAny_isInstance (T := "int") (b := false) (typeIs_int _ _ _) PySem.sub_int_bytearray (by
          simp only [Bool.false_eq_true, if_false]
          refine wpAny_pure (wpAny_pure (wpAny_bind (wpAny_newObj_type ?_)))
          obtain ⟨St, Fin, W, h0, hQ⟩ := hW s'.heap.objs.size (Nat.le_refl _)
          exact wpAny_pure ⟨plainId_quiet F.plain_sum_loop _, sum_turns W hv hfit n 0 _ s'.toks 0 rfl (Nat.zero_le _) (h0 _ _ (fun b o e => Heap.get?_push_of_some _ e) ⟨_, Heap.get?_push_size _ rfl, fun v z => nomatch z⟩) (Heap.get?_push_size _ rfl) hQ⟩)))))))))))))
theorem call_maxG (hW : ∀ S, s.heap.objs.size ≤ S → ∃ (St : Nat → Shared → Prop) (Fin : Shared → Prop), WG prog w A.in1 a n vals [S] St Fin ∧ (∀ h' tk, (∀ b o, s.heap.get? b = some o → h'.get? b = some o) → (∃ o, h'.get? S = some o ∧ ∀ v, o.data ≠ .cell v) → St 0 { s with heap := h', toks := tk }) ∧ ∀ s' t', Fin s' → Q (.int (topI val (n - 1)) t') s')
    (hself : wpAny (model prog w) A.in1 (pyIter (.ref a)) (fun u s' => u = .ref a ∧ s' = s) E s) (hv : ∀ i, vals i = .int (val i)) (hn : 0 < n) : wpAny (model prog w) A (call (.builtin "max") [.ref a]) Q E s := by
  have hname : (toString "max" ++ toString ".loop" : String) = "max.loop" := by decide
  refine call_function_tree F.kind_max F.plain_max F.entry_max (F.args_max1 _) (by
    show wpAny _ A.in1 (Builtin.Builtins.bindParams "max" ["key", "default"] 0 ⟨[], []⟩ >>= _) _ _ s
    refine wpAny_bind (wpAny_of_eq (show Builtin.Builtins.bindParams "max" ["key", "default"] 0 ⟨[], []⟩ = pure [none, none] from rfl) (wpAny_bind (wpAny_pure (wpAny_bind (wpAny_mono hself (fun u s' h => ?_) fun _ _ e => e)))))
    obtain ⟨rfl, rfl⟩ := h
    refine wpAny_bind (wpAny_newObj_type ?_)
    obtain ⟨St, Fin, W, h0, hQ⟩ := hW s'.heap.objs.size (Nat.le_refl _)
    rw [hname]
    generalize hS : s'.heap.objs.size = S at W h0 ⊢
    have hS0 : (s'.heap.push { cls := .type "list", dict := none, data := .seq #[] 0 }).get? S = some (accO #[] 0) := by rw [← hS]; exact Heap.get?_push_size _ rfl
    have st0 := h0 (s'.heap.push { cls := .type "list", dict := none, data := .seq #[] 0 }) s'.toks (fun b o e => Heap.get?_push_of_some _ e) ⟨_, hS0, fun v z => nomatch z⟩
    refine wpAny_pure ⟨plainId_quiet F.plain_max_loop _, codeAny_builtin F.entry_max_loop (by
      rw [Around.under_plainId F.plain_max_loop _]
      show wpAny _ A.in1 (seqItems? (.ref S) >>= _) _ _ _
      refine wpAny_bind (wpAny_seqItems hS0 rfl (show wpAny _ A.in1 (tryCatch (pyNext (.ref a)) _ >>= _) _ _ _ from ?_))
      refine wpAny_bind (wpAny_tryCatch (W.item 0 _ _ _ hn st0 fun v s2 r st' sm => ?_))
      rw [hv 0] at r
      obtain ⟨t1, rfl⟩ := r
      have hS' := same_at sm hS0
      show wpAny _ A.in1 (updateSeq S (fun _ => #[Value.int (val 0) t1, Value.int (val 0) t1]) >>= _) _ _ _
      refine wpAny_bind (wpAny_updateSeq hS' rfl ?_)
      rw [hname]
      refine wpAny_pure ⟨plainId_quiet F.plain_max_loop _, max_turns W hv _ 0 _ t1 _ rfl hn (W.upd _ s2 _ s2.toks st' upd_keeps fun b hb => ?_) (Heap.get?_update_self _ hS' rfl) hQ⟩
      rw [List.mem_singleton.mp hb]
      exact ⟨_, Heap.get?_update_self _ hS' rfl, fun v z => nomatch z⟩)⟩)
end
/-! ### the rules -/
def okAll (n : Nat) (vals : Nat → V) (r : V) : Prop := ∃ f : Nat → Bool, vals = (fun i => .bl (f i)) ∧ r = .bl (allF n f)
def okAny (n : Nat) (vals : Nat → V) (r : V) : Prop := ∃ f : Nat → Bool, vals = (fun i => .bl (f i)) ∧ r = .bl (anyF n f)
def okSum (n : Nat) (vals : Nat → V) (r : V) : Prop := ∃ f : Nat → Int, vals = (fun i => .int (f i)) ∧ r = .int (preSum f n) ∧ ∀ j, j < n → InLong (f j) ∧ InLong (preSum f (j + 1))
def okMax (n : Nat) (vals : Nat → V) (r : V) : Prop := ∃ f : Nat → Int, vals = (fun i => .int (f i)) ∧ r = .int (topI f (n - 1)) ∧ 0 < n
section
variable {X : Cx} {c P : Addr} {elt tg iter : Expr} {scope : Scope} {own : List (Str × Nat)} {p pos gpos : Pos} {wi : TI} {g : TG} {te : TE} {k : Nat}
theorem pe_gen {bn : Str} {b : String} {okc : Nat → (Nat → V) → V → Prop} (hbb : bootBuiltins bn = some (.builtin b)) (hcall : ∀ (pins : List (Addr × Obj)) (σ : L2.St) (n : Nat) (vals : Nat → V) (r : V) (QF : Hp → Prop) (a : Addr) (s5 : Shared), okc n vals r → RdyX X pins σ n vals QF a s5 → wpAny (model X.prog X.w) X.A (call (.builtin b) [.ref a]) (fun u s' => RelV r u ∧ ∃ H', Inv X pins σ H' s' ∧ QF H') X.xe s5)
    (hr : Room (k + 1) X.A) (hN : X.N.Nodup) (hgl : Gl X bn) (hm : X.mg bn = none) (TB : LamX.TabB X.base X.mg c P) (hcode : X.env.code = .ref c) (S : GenX X.env scope) (ok : BlkOk X.N X.env.scope scope own)
    (hi : PI X tg iter wi) (hs : ∀ v, genFold iter X.env v = pure v) (hg : ∀ (A' : Around) (s : Shared) (H : Hp) (C : Addr) (code : Value) (fp : List Addr), Room k A' → PG (gnb X A' s H (gnE X scope C code) fp) tg g) (he : ∀ (A' : Around) (s : Shared) (H : Hp) (C : Addr) (code : Value) (fp : List Addr), Room k A' → PE (gnb X A' s H (gnE X scope C code) fp) elt te)
    (hst : starEach [.GeneratorExp elt [⟨tg, iter, [], 0⟩] scope gpos] X.env = (false, eval (.GeneratorExp elt [⟨tg, iter, [], 0⟩] scope gpos) X.env) :: starEach [] X.env := by rfl) (hnm : bn ≠ "__name__" := by decide) (hdb : (bn == ("__debug__" : Str)) = false := by decide) :
    PE X (.Call (.Name bn p) [.GeneratorExp elt [⟨tg, iter, [], 0⟩] scope gpos] [] pos) (tGX P okc wi g te (own.map (·.2))) := by
  refine ⟨fun pins s σ H Q I h => wpAny_Call_Name_kw (ld_blt I hgl hm hbb (PyProof.Rows.callWith_builtin1 ?_ hst (by rfl)) hnm hdb)⟩
  rw [hst]
  show wpAny _ _ (spliced ((false, eval (.GeneratorExp elt [⟨tg, iter, [], 0⟩] scope gpos) X.env) :: backTo pos (starEach [] X.env))) _ _ s
  refine Calls.spliced_cons (gen_makeX hr hN TB hcode S ok hi hs hg he I h fun n vals r W a s5 hok fin rdy => Calls.spliced_nil (wpAny_mono (hcall pins σ n vals r _ a s5 hok rdy) (fun u s' ⟨r1, H', I', i, hi, w⟩ => ⟨r, H', I', r1, fin i H' hi w⟩) fun _ _ e => e))
theorem rdy0 {pins : List (Addr × Obj)} {σ : L2.St} {n : Nat} {vals : Nat → V} {QF : Hp → Prop} {a : Addr} {s5 : Shared} (R : RdyX X pins σ n vals QF a s5) : ∃ St Fin, WG X.prog X.w X.A.in1 a n vals [] St Fin ∧ St 0 s5 ∧ ∀ s', Fin s' → ∃ H', Inv X pins σ H' s' ∧ QF H' := by
  obtain ⟨St, Fin, h1, h2, h3⟩ := R
  exact ⟨St [], Fin [], h1 [] (fun b hb => nomatch hb), h2 [] s5.heap s5.toks (fun b hb => nomatch hb) (fun _ _ e => e) (fun b hb => nomatch hb), h3 []⟩
theorem call_all_rdy {pins : List (Addr × Obj)} {σ : L2.St} {n : Nat} {vals : Nat → V} {r : V} {QF : Hp → Prop} {a : Addr} {s5 : Shared} (ok : okAll n vals r) (R : RdyX X pins σ n vals QF a s5) : wpAny (model X.prog X.w) X.A (call (.builtin "all") [.ref a]) (fun u s' => RelV r u ∧ ∃ H', Inv X pins σ H' s' ∧ QF H') X.xe s5 := by
  obtain ⟨f, rfl, rfl⟩ := ok
  obtain ⟨St, Fin, W, st, hF⟩ := rdy0 R
  exact call_allG W (fun _ => rfl) st fun s' h => ⟨rfl, hF s' h⟩
theorem call_any_rdy {pins : List (Addr × Obj)} {σ : L2.St} {n : Nat} {vals : Nat → V} {r : V} {QF : Hp → Prop} {a : Addr} {s5 : Shared} (ok : okAny n vals r) (R : RdyX X pins σ n vals QF a s5) : wpAny (model X.prog X.w) X.A (call (.builtin "any") [.ref a]) (fun u s' => RelV r u ∧ ∃ H', Inv X pins σ H' s' ∧ QF H') X.xe s5 := by
  obtain ⟨f, rfl, rfl⟩ := ok
  obtain ⟨St, Fin, W, st, hF⟩ := rdy0 R
  exact call_anyG W (fun _ => rfl) st fun s' h => ⟨rfl, hF s' h⟩
theorem rdy1 {pins : List (Addr × Obj)} {σ : L2.St} {n : Nat} {vals : Nat → V} {QF : Hp → Prop} {a : Addr} {s5 : Shared} (R : RdyX X pins σ n vals QF a s5) (S : Addr) (hS : s5.heap.objs.size ≤ S) : ∃ (St : Nat → Shared → Prop) (Fin : Shared → Prop), WG X.prog X.w X.A.in1 a n vals [S] St Fin ∧ (∀ h' tk, (∀ b o, s5.heap.get? b = some o → h'.get? b = some o) → (∃ o, h'.get? S = some o ∧ ∀ v, o.data ≠ .cell v) → St 0 { s5 with heap := h', toks := tk }) ∧
    ∀ s', Fin s' → ∃ H', Inv X pins σ H' s' ∧ QF H' := by
  obtain ⟨St, Fin, h1, h2, h3⟩ := R
  have hSp : ∀ b ∈ [S], s5.heap.objs.size ≤ b := fun b hb => by rw [List.mem_singleton.mp hb]; exact hS
  exact ⟨St [S], Fin [S], h1 [S] hSp, fun h' tk k e => h2 [S] h' tk hSp k fun b hb => by rw [List.mem_singleton.mp hb]; exact e, h3 [S]⟩
theorem self_rdy {E : Value → Shared → Prop} {pins : List (Addr × Obj)} {σ : L2.St} {n : Nat} {vals : Nat → V} {QF : Hp → Prop} {a : Addr} {s5 : Shared} (R : RdyX X pins σ n vals QF a s5) : wpAny (model X.prog X.w) X.A.in1 (pyIter (.ref a)) (fun u s' => u = .ref a ∧ s' = s5) E s5 := by
  obtain ⟨St, Fin, W, st, hF⟩ := rdy0 R
  exact W.self 0 _ _ _ st ⟨rfl, rfl⟩
theorem call_sum_rdy {pins : List (Addr × Obj)} {σ : L2.St} {n : Nat} {vals : Nat → V} {r : V} {QF : Hp → Prop} {a : Addr} {s5 : Shared} (ok : okSum n vals r) (R : RdyX X pins σ n vals QF a s5) : wpAny (model X.prog X.w) X.A (call (.builtin "sum") [.ref a]) (fun u s' => RelV r u ∧ ∃ H', Inv X pins σ H' s' ∧ QF H') X.xe s5 := by
  obtain ⟨f, rfl, rfl, hfit⟩ := ok
  exact call_sumG (fun S hS => let ⟨S1, F1, W, h0, hF⟩ := rdy1 R S hS; ⟨S1, F1, W, h0, fun s' t' h => ⟨⟨t', rfl⟩, hF s' h⟩⟩) (self_rdy R) (fun _ => rfl) hfit
theorem call_max_rdy {pins : List (Addr × Obj)} {σ : L2.St} {n : Nat} {vals : Nat → V} {r : V} {QF : Hp → Prop} {a : Addr} {s5 : Shared} (ok : okMax n vals r) (R : RdyX X pins σ n vals QF a s5) : wpAny (model X.prog X.w) X.A (call (.builtin "max") [.ref a]) (fun u s' => RelV r u ∧ ∃ H', Inv X pins σ H' s' ∧ QF H') X.xe s5 := by
  obtain ⟨f, rfl, rfl, hn⟩ := ok
  exact call_maxG (fun S hS => let ⟨S1, F1, W, h0, hF⟩ := rdy1 R S hS; ⟨S1, F1, W, h0, fun s' t' h => ⟨⟨t', rfl⟩, hF s' h⟩⟩) (self_rdy R) (fun _ => rfl) hn
end
end LH

set_option Elab.async false
set_option linter.all false
set_option maxRecDepth 100000
set_option maxHeartbeats 4000000
namespace LO
open PySem PySem.Spec PyProof.Rows L2 L2H Evl LT LG LS LX
/-! ### own objects: fields, methods, items changed -/
theorem get_list {X : Cx} : PGet X (rIxL X.K) := by
  intro pins s σ H x y v u Q I rx ry h
  obtain ⟨p, xs, i, z, rfl, rfl, hq, he, q⟩ := h
  cases rx
  obtain ⟨t, rfl⟩ := ry
  obtain ⟨its, r, pl, hz⟩ := I.list hq
  obtain ⟨j, h1, h2, h3, h4, h5⟩ := atI_get he
  obtain ⟨w, ew, rw'⟩ := r.get h2
  have hl := r.length
  have hn := line63
  have fin : EP X pins σ Q w s := ⟨z, H, I, rw', q⟩
  by_cases h0 : 0 ≤ i
  · have hj : i.toNat = j := by
      rw [seqIndex_of h0 h5] at h1
      exact Option.some.inj h1
    exact wpAny_getItem_list (Q := fun r s' => EP X pins σ Q r s') pl.isList h0 (by omega) (by rw [hj]; simpa using ew) fin
  · have hj : (i + (its.toArray.size : Int)).toNat = j := by
      rw [seqIndex_neg (by omega) h4] at h1
      rw [List.size_toArray, ← hl]
      exact Option.some.inj h1
    exact wpAny_getItem_list_neg (Q := fun r s' => EP X pins σ Q r s') pl.isList (by omega) (by rw [List.size_toArray] <;> omega) (by omega) (by rw [hj]; simpa using ew) fin
/-- o.m(e, ..), what is raised wished for at the slots -/
def tMethA (C : Addr) (m : Str) (sp : Sp) (E : L2.St → XK) (ta : TE) (t : TA) : TE := fun σ H Q => ta σ H fun x H1 => ∃ a dx fs, x = .ref a ∧ H1 a = some (.ins C dx fs) ∧ fs.lookup m = none ∧ t σ H1 fun vs H2 => sp (x :: vs) H2 Q (E σ)
section
variable {X : Cx} {CX : CXT} {k : Nat} {f C : Addr} {fd : FuncData} {ps : List Str} {sp : Sp} {E : L2.St → XK} {m : Str} {pos apos : Pos} {e o : Expr} {es : List Expr} {ta : TE} {t : TA}
theorem pe_methA {pl : Sem Bool} (he : PE X o ta) (c : Cls X.K C) (hm : Meth X.K C m f) (F : FnOk X.prog X.w X.K X.mg X.base CX k f fd ps sp) (hr : Room k X.A) (hb : Binds X.K fd ps []) (hx : ∀ σ, PassesAt CX X σ (E σ)) (ha : PA X (e :: es) t)
    (hst : starEach (e :: es) X.env = (false, eval e X.env) :: starEach es X.env := by rfl) (hpl : (backTo pos (starEach es X.env)).any (·.1) = false := by rfl)
    (ht : eval (.Call (.Attribute o m apos) (e :: es) [] pos) X.env = (do
      let ov ← eval o X.env
      standAt apos.atName
      let (f, first) ← holding [ov] (getMethod ov m pl)
      callWith pos f first (backTo pos (starEach (e :: es) X.env)) (backToKw pos (keywordEach [] X.env))) := by rfl) :
    PE X (.Call (.Attribute o m apos) (e :: es) [] pos) (tMethA C m sp E ta t) := by
  refine ⟨fun pins s σ H Q I h => ?_⟩
  refine PySem.W.methodCall_KW (pl := pl) (thn (he.run pins s σ H _ I h) fun u s1 ⟨x, H1, I1, rx, a, dx, fs, ex, ea, l, q⟩ => ?_) ht
  subst ex
  obtain rfl : u = Value.ref a := rx
  refine getmeth_ok I1 ea c hm l ?_
  refine PySem.W.callWith_K (first := [.ref a]) (h₀ := X.base) I.ok.mod.kin hm.kp (thn (ha.run pos pins s1 σ H1 _ I1 q) fun us s2 ⟨vs, H2, I2, r, q2⟩ => ⟨I2.kIn, ?_⟩) hst hpl
  exact run_fnS (us := .ref a :: us) (vs := .ref a :: vs) F hr hb (hx σ) I2 (.cons rfl r) q2
theorem pe_methA0 {pl : Sem Bool} (he : PE X o ta) (c : Cls X.K C) (hm : Meth X.K C m f) (F : FnOk X.prog X.w X.K X.mg X.base CX k f fd ps sp) (hr : Room k X.A) (hb : Binds X.K fd ps []) (hx : ∀ σ, PassesAt CX X σ (E σ))
    (ht : eval (.Call (.Attribute o m apos) [] [] pos) X.env = (do
      let ov ← eval o X.env
      standAt apos.atName
      let (f, first) ← holding [ov] (getMethod ov m pl)
      callWith pos f first (backTo pos (starEach [] X.env)) (backToKw pos (keywordEach [] X.env))) := by rfl) :
    PE X (.Call (.Attribute o m apos) [] [] pos) (tMethA C m sp E ta tNil) := by
  refine ⟨fun pins s σ H Q I h => ?_⟩
  refine PySem.W.methodCall_KW (pl := pl) (thn (he.run pins s σ H _ I h) fun u s1 ⟨x, H1, I1, rx, a, dx, fs, ex, ea, l, q⟩ => ?_) ht
  subst ex
  obtain rfl : u = Value.ref a := rx
  refine getmeth_ok I1 ea c hm l ?_
  exact PySem.W.callWith_K0 (first := [.ref a]) I1.kIn hm.kp (run_fnS (us := [.ref a]) (vs := [.ref a]) F hr hb (hx σ) I1 (.cons rfl .nil) q)
end
/-! ### a def that is handed the caught exception, within the suite -/
structure FnE (P : Program) (w : World) (K : PySem.W.Frag) (mg : Str → Option Value) (base : Heap) (CX : CXT) (k : Nat) (f : Addr) (fd : FuncData) (ps : List Str) (sp : Addr → Addr → Sp) : Prop where
  len : ∀ D a vs H Q E, sp D a vs H Q E → vs.length = ps.length
  run : ∀ (A : Around) (outer : List Env) (s : Shared) (H : Hp) (args : Args) (us : List Value) (vs : List V) (Q : VK) (E : XK) (p : Addr × Obj) (D : Addr), RoomH k A → Zc (.ref D) none p.2 → (∃ vs, p.2.data = .fields vs) → PinOk outer H s p → Env0 P w K mg base A outer s H → BindsTo s fd args (ps.zip us) → Vals vs us → sp D p.1 vs H Q E →
    codeAny (model P w) A (.call (.ref f) args) (CR CX outer P w H s Q E) s
theorem fn_ofE {CX : CXT} {P : Program} {w : World} {K : PySem.W.Frag} {mg : Str → Option Value} {base : Heap} {k : Nat} {f : Addr} {name qual : Str} {params : Arguments} {body : List Stmt} {scope : Scope} {dV kV doc pm cdv ct oc : Value} {an od : Option Addr}
    {osl : Array (Option Value)} {N ps : List Str} {sp : Addr → Addr → Sp} (lk : K.lookup f = some ⟨oc, od, .func (PySem.W.fnOf name qual params body scope dV kV doc pm an cdv ct), osl⟩) (hcd : PySem.W.codeIn K cdv qual = true) (S : FnScope N ps scope)
    (len : ∀ D a vs H Q E, sp D a vs H Q E → vs.length = ps.length)
    (hbody : ∀ (A : Around) (outer : List Env) (s : Shared) (H : Hp) (vs : List V) (Q : VK) (E : XK) (p : Addr × Obj) (D : Addr), RoomH k (A.deeper (envOfC qual scope s.heap.objs.size f cdv)) → Zc (.ref D) none p.2 → (∃ vs, p.2.data = .fields vs) → sp D p.1 vs H Q E →
      ∃ t, PSs (cxH CX P w K mg base N qual scope f cdv A outer s H E p) body t ∧ t { nx := fun _ H' => Q .non H', rt := Q } (L2.start N vs) H) :
    FnE P w K mg base CX (k + 1) f (PySem.W.fnOf name qual params body scope dV kV doc pm an cdv ct) ps sp := by
  refine ⟨len, fun A outer s H args us vs Q E p D hr hz hf hpin e0 hb r hsp => ?_⟩
  have hl := len _ _ _ _ _ _ hsp
  have KX : K.In s.heap := e0.mod.kin.keeps fun b o e => (e0.bs b o e).1
  have lim : s.heap.NoLimit := e0.mod.nolimit.keeps fun b o e => (e0.bs b o e).1
  have hkind : ∀ y ∈ ps.zip us, scope.names.lookup y.1 = some .local ∨ (scope.names.lookup y.1 = some .cell ∧ ((cellsFrom (s.heap.objs.size + 1) scope.names []).lookup y.1).isSome = true) := fun ⟨n, v⟩ hy => by
    rcases S.par n (List.of_mem_zip hy).1 with q | q
    · exact .inl q
    · exact .inr ⟨q, PySem.W.cellsFrom_some _ _ _ (.inl q)⟩
  refine codeAny_call_function hr.depth (KX _ _ lk) rfl S.co S.gen rfl (PySem.W.codeRec_of KX hcd) (hb _ _ _ _ ?_)
  refine wpAny_newFunctionEnv_cells S.kind hkind fun env he s1 x => ?_
  subst he
  refine ⟨lim.keeps x.toInCall.keep, codeAny_func ?_⟩
  obtain ⟨t, ht, hq⟩ := hbody A outer s H vs Q E p D (hr.deeper _) hz hf hsp
  have I : Inv (cxH CX P w K mg base N qual scope f cdv A outer s H E p) [] (L2.start N vs) H s1 := inv_startH S hpin e0 hl r x
  refine wpAny_mono (ht.run [] s1 (L2.start N vs) H _ I hq) (fun fl s' hs => ?_) fun e s' hs => hs
  have fin : ∀ {σ' : L2.St} {H' : Hp} {v : V} {u : Value}, Inv (cxH CX P w K mg base N qual scope f cdv A outer s H E p) [] σ' H' s' → RelV v u → Q v H' → CE outer P w H s Q u s' :=
    fun {σ' H' v u} J rv q => ⟨v, H', J.os, J.bare, J.base, J.hok, rv, q⟩
  cases fl with
  | ret u =>
    obtain ⟨v, σ', H', J, rv, q⟩ := hs
    exact fin J rv q
  | next =>
    obtain ⟨σ', H', J, q⟩ := hs
    exact fin (v := V.non) (u := Value.none) J rfl q
  | brk =>
    obtain ⟨_, _, _, q⟩ := hs
    exact False.elim q
  | cont =>
    obtain ⟨_, _, _, q⟩ := hs
    exact False.elim q
section
variable {P : Program} {w : World} {K : PySem.W.Frag} {mg : Str → Option Value} {base : Heap}
theorem okE {x qual : Str} {st : Stmt} {f : Addr} {fd : FuncData} {N ps : List Str} {k : Nat} {sp : Addr → Addr → Sp} (F : Fun K x qual st f fd) (S : FnScope N ps (defScope st)) (len : ∀ D a vs H Q E, sp D a vs H Q E → vs.length = ps.length)
    (hbody : ∀ (cdv : Value) (A : Around) (outer : List Env) (s : Shared) (H : Hp) (vs : List V) (Q : VK) (E : XK) (p : Addr × Obj) (D : Addr), RoomH k (A.deeper (envOfC qual (defScope st) s.heap.objs.size f cdv)) → Zc (.ref D) none p.2 → (∃ vs, p.2.data = .fields vs) → sp D p.1 vs H Q E →
      ∃ t, PSs (cxH CX0 P w K mg base N qual (defScope st) f cdv A outer s H E p) (defBody st) t ∧ t { nx := fun _ H' => Q .non H', rt := Q } (L2.start N vs) H) : FnE P w K mg base CX0 (k + 1) f fd ps sp := by
  obtain ⟨oc, od, kV, doc, pm, an, cdv, ct, osl, rfl, lk, hcd⟩ := F.ex
  exact fn_ofE lk hcd S len fun A outer s H vs Q E p D hr hz hf hsp => hbody cdv A outer s H vs Q E p D hr hz hf hsp
end
def tCallE (sp : Addr → Addr → Sp) (cls : Value) (d : Option Addr) (a : Addr) (E : L2.St → XK) (t : TA) : TE := fun σ H Q => t σ H fun vs H1 => ∃ D, cls = .ref D ∧ d = none ∧ sp D a vs H1 Q (E σ)
section
variable {X : Cx} {CX : CXT} {k : Nat} {f : Addr} {fd : FuncData} {ps : List Str} {sp : Addr → Addr → Sp} {E : L2.St → XK} {x : Str} {q pos : Pos} {e : Expr} {es : List Expr} {t : TA} {a : Addr} {oe : Obj} {cls : Value} {d : Option Addr} {pn : List (Addr × Obj)}
theorem pass0E {X : Cx} {σ : L2.St} {E : XK} : PassesAt CX0 X σ E := fun _ _ _ _ _ _ h => h.elim
theorem pe_callE (hz : Zc cls d oe) (hf : ∃ vs, oe.data = .fields vs) (F : FnE X.prog X.w X.K X.mg X.base CX k f fd ps sp) (hr : Room k X.A) (hg : Gl (X.suite a ((a, oe) :: pn)) x) (hm : X.mg x = some (.ref f)) (hk : PySem.W.keepIn X.K (.ref f) = true) (hb : Binds X.K fd ps []) (hx : ∀ σ, PassesAt CX (X.suite a ((a, oe) :: pn)) σ (E σ))
    (ha : PA (X.suite a ((a, oe) :: pn)) (e :: es) t) (hdb : (x == ("__debug__" : Str)) = false := by decide) (he : starEach (e :: es) X.env = (false, eval e X.env) :: starEach es X.env := by rfl) (hpl : (backTo pos (starEach es X.env)).any (·.1) = false := by rfl) :
    PE (X.suite a ((a, oe) :: pn)) (.Call (.Name x q) (e :: es) [] pos) (tCallE sp cls d a E t) := by
  refine ⟨fun pins s σ H Q I h => ?_⟩
  refine wpAny_Call_Name_kw (ld_glob I hg hm ?_ hdb)
  refine PySem.W.callWith_K (h₀ := X.base) I.ok.mod.kin hk (thn (ha.run pos pins s σ H _ I h) fun us s1 ⟨vs, H1, I1, r, q⟩ => ⟨I1.kIn, ?_⟩) he hpl
  obtain ⟨D, rfl, rfl, q⟩ := q
  have hl : us.length = ps.length := by rw [← r.length]; exact F.len _ _ _ _ _ _ q
  have b := hb s1 us I1.kIn (by rw [List.append_nil]; exact hl)
  rw [List.append_nil] at b
  have P1 := I1.pin (a, oe) (List.mem_append_left _ List.mem_cons_self)
  have hpin : PinOk X.stack H1 s1 (a, oe) := ⟨P1.1, P1.2.1, fun hm => (List.mem_cons.mp (I1.stkSub a hm)).elim P1.2.2.1 P1.2.2.2.1, P1.2.2.2.2⟩
  refine wpAny_call (codeAny_mono (F.run _ X.stack s1 H1 ⟨us, []⟩ us vs Q (E σ) (a, oe) D ⟨hr.dp, hr.un⟩ hz hf hpin I1.env0 b r q) fun r s' hq => ?_)
  cases r with
  | error e => exact hx σ pins H1 s1 e s' I1 hq
  | ok fl =>
    cases fl with
    | ret u => exact I1.after hq
    | next => exact False.elim hq
    | brk => exact False.elim hq
    | cont => exact False.elim hq
end
/-- isinstance(e, c), e the exception that is handed in -/
def rIsP (K : PySem.W.Frag) (D a : Addr) : List V → Hp → VK → Prop := fun xs H Q => ExcC K D ∧ rIsE K D a xs H Q
theorem call_isP {X : Cx} {D : Addr} {p : Addr × Obj} (hp : p ∈ X.pn) (hz : Zc (.ref D) none p.2) (hf : ∃ vs, p.2.data = .fields vs) : CallR X (.builtin "isinstance") (rIsP X.K D p.1) := by
  intro pins s σ H xs us Q I r h
  obtain ⟨C, c, cv, b, rfl, hcv, e, q⟩ := h
  cases r with
  | cons rx rr =>
    cases rr with
    | cons rt rr =>
      cases rr
      cases rx
      have ec := hcv _ rt
      subst ec
      obtain ⟨hget, _⟩ := I.pin p (List.mem_append.mpr (.inl hp))
      obtain ⟨vs, hv⟩ := hf
      have J : PySem.W.InstAt s.heap p.1 p.2 D none := by
        obtain ⟨a, oc, od, oda, osl⟩ := p
        obtain ⟨h1, h2⟩ := hz
        dsimp only at h1 h2 hv hget ⊢
        subst h1 h2 hv
        exact ⟨hget, rfl, rfl, trivial⟩
      exact PySem.W.kia_one (PySem.W.handS_kitx_exc C.hg C.hk C.hs C.hd C.ha C.hn C.ht C.hm) I.kIn J e (fun z => nomatch z) fun tk => ⟨.bl b, H, I.kept (t' := tk) fun _ _ z => z, rfl, q⟩
theorem ev_isP {K : PySem.W.Frag} {D a C : Addr} {σ : L2.St} {H : Hp} {ta tb : TE} {b : Bool} (hC : ExcC K D) (h : Ev ta σ H (.ref a)) (hn : Ev tb σ H (.ref C)) (hk : PySem.W.kitOne K (.ref D) (.ref C) = some b) : Ev (tCB (rIsP K D a) (tCons ta (tCons tb tNil))) σ H (.bl b) :=
  ev_cb (ea_cons h (ea_cons hn ea_nil)) fun H1 e Q q => ⟨hC, .ref C, .ref C, b, rfl, fun u hu => hu, hk, q H1 (Ex.refl H1)⟩
/-- isinstance in the suite, the class open -/
def rIsQ (K : PySem.W.Frag) (a : Addr) (cls : Value) (d : Option Addr) : List V → Hp → VK → Prop := fun xs H Q => ∃ D, cls = .ref D ∧ d = none ∧ ExcC K D ∧ rIsE K D a xs H Q
theorem call_isQ {X : Cx} {a : Addr} {oe : Obj} {cls : Value} {d : Option Addr} {pn : List (Addr × Obj)} (hz : Zc cls d oe) (hf : ∃ vs, oe.data = .fields vs) : CallR (X.suite a ((a, oe) :: pn)) (.builtin "isinstance") (rIsQ X.K a cls d) := by
  intro pins s σ H xs us Q I r h
  obtain ⟨D, rfl, rfl, C, h⟩ := h
  exact call_isE C hz hf pins s σ H xs us Q I r h
theorem ev_isQ {K : PySem.W.Frag} {D a C : Addr} {σ : L2.St} {H : Hp} {ta tb : TE} {b : Bool} (hC : ExcC K D) (h : Ev ta σ H (.ref a)) (hn : Ev tb σ H (.ref C)) (hk : PySem.W.kitOne K (.ref D) (.ref C) = some b) : Ev (tCB (rIsQ K a (.ref D) none) (tCons ta (tCons tb tNil))) σ H (.bl b) :=
  ev_cb (ea_cons h (ea_cons hn ea_nil)) fun H1 e Q q => ⟨D, rfl, rfl, hC, .ref C, .ref C, b, rfl, fun u hu => hu, hk, q H1 (Ex.refl H1)⟩
theorem el_is {te : TE} {σ : L2.St} {H : Hp} {xs ys : List V} (h : EvL te σ H xs) (e : xs = ys) : EvL te σ H ys := by
  rw [← e]
  exact h
theorem rv_isN {H : Hp} {x : V} : RV (fun x y H Q => y = .non ∧ Q (.bl (decide (x = .non))) H) x .non H (.bl (decide (x = .non))) := rv_val fun _ _ Q q => ⟨rfl, q⟩
theorem rv_notN {H : Hp} {x : V} : RV (fun x y H Q => y = .non ∧ Q (.bl (!decide (x = .non))) H) x .non H (.bl (!decide (x = .non))) := rv_val fun _ _ Q q => ⟨rfl, q⟩
/-- a call, then a new instance by its __init__ -/
theorem q_make {C : Addr} {sp : Sp} {σ : L2.St} {H : Hp} {t : TA} {vs : List V} {E : XK} {i : Nat} {tz : TS} {D : Ends} (ht : EvA t σ H vs) (k : ∀ p dx H1 H2, H p = none → H1 p = none → Ex H H1 → H2 p = some (.ins C dx []) → Ex H1 H2 → sp (.ref p :: vs) H2 (fun v H3 => v = .non ∧ tz D (σ.set i (some (.ref p))) H3) E) : tSeq (tAsg (tMake C sp [] E t) (gName i)) tz D σ H :=
  ht H (Ex.refl _) _ fun H1 e1 p dx hp hd hne => by
    have h := k p dx H1 (upd (upd H1 dx (.own p)) p (.ins C dx [])) (fresh_back e1 hp) hp e1 upd_same ((Ex.new hd).mut hp)
    rw [show V.ref p :: (vs ++ []) = V.ref p :: vs by rw [List.append_nil]]
    exact h
/-- runs of a call -/
theorem q_run {sp : Sp} {σ : L2.St} {H : Hp} {tr : TA} {vs : List V} {E : XK} {tz : TS} {D : Ends} {i : Nat} (h : EvA tr σ H vs) (k : ∀ H1, Ex H H1 → sp vs H1 (fun v H2 => tz D (σ.set i (some v)) H2) E) : tSeq (tAsg (tCall sp [] E tr) (gName i)) tz D σ H := h H (Ex.refl H) _ fun H1 e => by
    rw [List.append_nil]
    exact k H1 e
/-! ### what fields and methods evaluate to -/
section
variable {K : PySem.W.Frag} {σ : L2.St} {H : Hp} {ta tb te : TE} {t : TA} {v z : V} {C p dx : Addr} {fs : List (Str × V)} {m : Str} {sp : Sp} {vs : List V} {tz : TS} {D : Ends}
theorem ev_fld (ha : Ev ta σ H (.ref p)) (hi : H p = some (.ins C dx fs)) (c : Cls K C) (n : NoAttr K C m) (hl : fs.lookup m = some v) : Ev (tFld K ta m) σ H v := fun H1 e Q q =>
  ha H1 e _ fun H2 e2 => ⟨p, C, dx, fs, v, rfl, e2 _ _ (e _ _ hi), c, n, hl, q H2 e2⟩
theorem ev_meth {E : XK} (ha : Ev ta σ H (.ref p)) (hi : H p = some (.ins C dx fs)) (hl : fs.lookup m = none) (ht : EvA t σ H vs) (hs : SpV sp (.ref p :: vs) H z) : Ev (tMeth C m sp [] E ta t) σ H z := fun H1 e Q q =>
  ha H1 e _ fun H2 e2 => ⟨p, dx, fs, rfl, e2 _ _ (e _ _ hi), hl, ht H2 (e.trans e2) _ fun H3 e3 => by
    rw [List.append_nil]
    exact hs H3 ((e.trans e2).trans e3) Q (fun H4 e4 => q H4 ((e2.trans e3).trans e4)) E⟩
theorem ev_meth0 {E : XK} (ha : Ev ta σ H (.ref p)) (hi : H p = some (.ins C dx fs)) (hl : fs.lookup m = none) (hs : SpV sp [.ref p] H z) : Ev (tMeth C m sp [] E ta tNil) σ H z := ev_meth ha hi hl ea_nil hs
/-- a method that changes something: its own promise, then the rest -/
theorem m_run {E : XK} {Q : VK} (ha : Ev ta σ H (.ref p)) (hi : H p = some (.ins C dx fs)) (hl : fs.lookup m = none) (ht : EvA t σ H vs) (k : ∀ H1, Ex H H1 → sp (.ref p :: vs) H1 Q E) : tMeth C m sp [] E ta t σ H Q :=
  ha H (Ex.refl _) _ fun H2 e2 => ⟨p, dx, fs, rfl, e2 _ _ hi, hl, ht H2 e2 _ fun H3 e3 => by
    rw [List.append_nil]
    exact k H3 (e2.trans e3)⟩
theorem mA_run {E : L2.St → XK} {Q : VK} (ha : Ev ta σ H (.ref p)) (hi : H p = some (.ins C dx fs)) (hl : fs.lookup m = none) (ht : EvA t σ H vs) (k : ∀ H1, Ex H H1 → sp (.ref p :: vs) H1 Q (E σ)) : tMethA C m sp E ta t σ H Q :=
  ha H (Ex.refl _) _ fun H2 e2 => ⟨p, dx, fs, rfl, e2 _ _ hi, hl, ht H2 e2 _ fun H3 e3 => k H3 (e2.trans e3)⟩
theorem q_m {E : XK} (ha : Ev ta σ H (.ref p)) (hi : H p = some (.ins C dx fs)) (hl : fs.lookup m = none) (ht : EvA t σ H vs) (k : ∀ H1, Ex H H1 → sp (.ref p :: vs) H1 (fun _ H2 => tz D σ H2) E) : tSeq (tDrop (tMeth C m sp [] E ta t)) tz D σ H := m_run (Q := fun _ H2 => tz D σ H2) ha hi hl ht k
theorem s_m {E : XK} (ha : Ev ta σ H (.ref p)) (hi : H p = some (.ins C dx fs)) (hl : fs.lookup m = none) (ht : EvA t σ H vs) (k : ∀ H1, Ex H H1 → sp (.ref p :: vs) H1 (fun _ H2 => D.nx σ H2) E) : tDrop (tMeth C m sp [] E ta t) D σ H := m_run (Q := fun _ H2 => D.nx σ H2) ha hi hl ht k
theorem r_m {E : XK} (ha : Ev ta σ H (.ref p)) (hi : H p = some (.ins C dx fs)) (hl : fs.lookup m = none) (ht : EvA t σ H vs) (k : ∀ H1, Ex H H1 → sp (.ref p :: vs) H1 D.rt E) : tRet (tMeth C m sp [] E ta t) D σ H := m_run (Q := D.rt) ha hi hl ht k
theorem q_mA {i : Nat} {E : XK} (ha : Ev ta σ H (.ref p)) (hi : H p = some (.ins C dx fs)) (hl : fs.lookup m = none) (ht : EvA t σ H vs) (k : ∀ H1, Ex H H1 → sp (.ref p :: vs) H1 (fun v H2 => tz D (σ.set i (some v)) H2) E) : tSeq (tAsg (tMeth C m sp [] E ta t) (gName i)) tz D σ H := m_run (Q := fun v H2 => tz D (σ.set i (some v)) H2) ha hi hl ht k
/-- the same in a try's body -/
theorem r_mA {E : L2.St → XK} (ha : Ev ta σ H (.ref p)) (hi : H p = some (.ins C dx fs)) (hl : fs.lookup m = none) (ht : EvA t σ H vs) (k : ∀ H1, Ex H H1 → sp (.ref p :: vs) H1 D.rt (E σ)) : tRet (tMethA C m sp E ta t) D σ H := mA_run (Q := D.rt) ha hi hl ht k
theorem q_mAD {E : L2.St → XK} (ha : Ev ta σ H (.ref p)) (hi : H p = some (.ins C dx fs)) (hl : fs.lookup m = none) (ht : EvA t σ H vs) (k : ∀ H1, Ex H H1 → sp (.ref p :: vs) H1 (fun _ H2 => tz D σ H2) (E σ)) : tSeq (tDrop (tMethA C m sp E ta t)) tz D σ H := mA_run (Q := fun _ H2 => tz D σ H2) ha hi hl ht k
theorem q_mAA {i : Nat} {E : L2.St → XK} (ha : Ev ta σ H (.ref p)) (hi : H p = some (.ins C dx fs)) (hl : fs.lookup m = none) (ht : EvA t σ H vs) (k : ∀ H1, Ex H H1 → sp (.ref p :: vs) H1 (fun v H2 => tz D (σ.set i (some v)) H2) (E σ)) : tSeq (tAsg (tMethA C m sp E ta t) (gName i)) tz D σ H := mA_run (Q := fun v H2 => tz D (σ.set i (some v)) H2) ha hi hl ht k
/-- o.f = e -/
theorem s_fld (hv : Ev te σ H v) (ha : Ev ta σ H (.ref p)) (hi : H p = some (.ins C dx fs)) (c : Cls K C) (n : NoAttr K C m) (hz : fs.length < 1000) (k : ∀ H1, Ex H H1 → D.nx σ (upd H1 p (.ins C dx (putF m v fs)))) : sFld K ta te m D σ H :=
  hv H (Ex.refl _) _ fun H1 e1 => ha H1 e1 _ fun H2 e2 => ⟨p, C, dx, fs, rfl, e2 _ _ (e1 _ _ hi), c, n, hz, k H2 (e1.trans e2)⟩
theorem s_fldL {xs : List V} (hv : EvL te σ H xs) (ha : Ev ta σ H (.ref p)) (hi : H p = some (.ins C dx fs)) (c : Cls K C) (n : NoAttr K C m) (hz : fs.length < 1000) (k : ∀ l H1, H l = none → Ex H H1 → H1 l = some (.lst xs) → D.nx σ (upd H1 p (.ins C dx (putF m (.ref l) fs)))) : sFld K ta te m D σ H :=
  hv H (Ex.refl _) _ fun l H1 hl e1 h1 => ha H1 e1 _ fun H2 e2 => ⟨p, C, dx, fs, rfl, e2 _ _ (e1 _ _ hi), c, n, hz, k l H2 hl (e1.trans e2) (e2 _ _ h1)⟩
theorem q_fld (hv : Ev te σ H v) (ha : Ev ta σ H (.ref p)) (hi : H p = some (.ins C dx fs)) (c : Cls K C) (n : NoAttr K C m) (hz : fs.length < 1000) (k : ∀ H1, Ex H H1 → tz D σ (upd H1 p (.ins C dx (putF m v fs)))) : tSeq (sFld K ta te m) tz D σ H := s_fld (D := { D with nx := tz D }) hv ha hi c n hz k
theorem q_fldL {xs : List V} (hv : EvL te σ H xs) (ha : Ev ta σ H (.ref p)) (hi : H p = some (.ins C dx fs)) (c : Cls K C) (n : NoAttr K C m) (hz : fs.length < 1000) (k : ∀ l H1, H l = none → Ex H H1 → H1 l = some (.lst xs) → tz D σ (upd H1 p (.ins C dx (putF m (.ref l) fs)))) : tSeq (sFld K ta te m) tz D σ H := s_fldL (D := { D with nx := tz D }) hv ha hi c n hz k
/-- xs[j] += e -/
theorem s_augL {f : Int → Int → Int} {l : Addr} {xs : List V} {j : Nat} {a b : Int} (ho : Ev ta σ H (.ref l)) (hi : Ev tb σ H (.int (j : Int))) (hl : H l = some (.lst xs)) (hj : xs[j]? = some (.int a)) (he : Ev te σ H (.int b)) (k : ∀ H1, Ex H H1 → D.nx σ (upd H1 l (.lst (xs.set j (.int (f a b)))))) :
    tAugS ta tb te (rIxL K) (ipI f) rSetL D σ H := ho H (Ex.refl _) _ fun H1 e1 => hi H1 e1 _ fun H2 e2 => ⟨l, xs, (j : Int), .int a, rfl, rfl, sq_of (e2 _ _ (e1 _ _ hl)), atI_nat hj, he H2 (e1.trans e2) _ fun H3 e3 => ⟨a, b, rfl, rfl, l, xs, (j : Int), j, rfl, rfl, e3 _ _ (e2 _ _ (e1 _ _ hl)), ixN_nat (List.getElem?_eq_some_iff.mp hj).1, k H3 ((e1.trans e2).trans e3)⟩⟩
theorem q_augL {f : Int → Int → Int} {l : Addr} {xs : List V} {j : Nat} {a b : Int} (ho : Ev ta σ H (.ref l)) (hi : Ev tb σ H (.int (j : Int))) (hl : H l = some (.lst xs)) (hj : xs[j]? = some (.int a)) (he : Ev te σ H (.int b)) (k : ∀ H1, Ex H H1 → tz D σ (upd H1 l (.lst (xs.set j (.int (f a b)))))) :
    tSeq (tAugS ta tb te (rIxL K) (ipI f) rSetL) tz D σ H := s_augL (D := { D with nx := tz D }) ho hi hl hj he k
end
/-! ### heaps in which the objects of S may change -/
def Fr (S : Addr → Prop) (H H' : Hp) : Prop := ∀ a o, H a = some o → ¬ S a → H' a = some o
theorem Fr.of {S : Addr → Prop} {H H' : Hp} (e : Ex H H') : Fr S H H' := fun a o h _ => e a o h
theorem Fr.trans {S : Addr → Prop} {H H1 H2 : Hp} (e : Fr S H H1) (f : Fr S H1 H2) : Fr S H H2 := fun a o h n => f a o (e a o h n) n
theorem Fr.mut {S : Addr → Prop} {H H' : Hp} {p : Addr} {o : HO} (e : Fr S H H') (h : S p) : Fr S H (upd H' p o) := fun a u ha n => by
  rw [upd_ne fun z => n (by rw [z]; exact h)]
  exact e a u ha n
theorem Fr.fresh {S : Addr → Prop} {H H' : Hp} {p : Addr} (e : Fr S H H') (h : H' p = none) (n : ¬ S p) : H p = none := by
  cases h1 : H p with
  | none => rfl
  | some o =>
    rw [e p o h1 n] at h
    cases h
/-- what H0 has stays, when what changes is none of it -/
theorem Fr.ex {S : Addr → Prop} {H0 H H' : Hp} (e : Ex H0 H) (f : Fr S H H') (n : ∀ a, S a → H0 a = none) : Ex H0 H' := fun a o h => f a o (e a o h) fun s => by
  rw [n a s] at h
  cases h
/-- what is read stands when an instance changes -/
theorem mut_l {K : PySem.W.Frag} {H H1 : Hp} {p C dx a : Addr} {fs fs' : List (Str × V)} {xs : List V} (e : Ex H H1) (hp : H p = some (.ins C dx fs)) (h : SqL K H a xs) : SqL K (upd H1 p (.ins C dx fs')) a xs := by
  rcases h with (h | ⟨o, h⟩) | h
  · exact .inl (.inl (by rw [upd_ne (ne_of h hp (by intro z; cases z))]; exact e _ _ h))
  · exact .inl (.inr ⟨o, by rw [upd_ne (ne_of h hp (by intro z; cases z))]; exact e _ _ h⟩)
  · exact .inr h
theorem mut_t {K : PySem.W.Frag} {H H1 : Hp} {p C dx a : Addr} {fs fs' : List (Str × V)} {xs : List V} (e : Ex H H1) (hp : H p = some (.ins C dx fs)) (h : SqT K H a xs) : SqT K (upd H1 p (.ins C dx fs')) a xs := by
  rcases h with (h | ⟨o, h⟩) | h
  · exact .inl (.inl (by rw [upd_ne (ne_of h hp (by intro z; cases z))]; exact e _ _ h))
  · exact .inl (.inr ⟨o, by rw [upd_ne (ne_of h hp (by intro z; cases z))]; exact e _ _ h⟩)
  · exact .inr h
/-- list(a tuple) -/
theorem el_listT {K : PySem.W.Frag} {σ : L2.St} {H : Hp} {ta : TE} {p : Addr} {xs : List V} (ha : Ev ta σ H (.ref p)) (h : SqT K H p xs) : EvL (tCB (rListS K) (tCons ta tNil)) σ H xs := fun H1 e Q q =>
  ha H1 e _ fun H2 e2 => ⟨p, xs, rfl, Or.inr (ex_t (e.trans e2) h), fun l hl => q l _ (fresh_back e2 hl) (e2.trans (Ex.new hl)) upd_same⟩
/-! ### comprehensions over two lists at once -/
theorem el_lcZ {K : PySem.W.Frag} {σ : L2.St} {H : Hp} {a b : Addr} {xs ys : List V} {t : TA} {tt : TT} {te : TE} {i j : Nat} {vs : List Nat} (f : Nat → Bool) (v : Nat → V) (h : EvA t σ H [.ref a, .ref b]) (hx : SqL K H a xs) (hy : SqL K H b ys) (hlen : xs.length = ys.length) (hz : xs.length ≤ 40000)
    (hw : ∀ x y, wipe (((wipe σ vs).set i (some x)).set j (some y)) vs = wipe σ vs)
    (ht : ∀ (n : Nat) (x y : V) H1, Ex H H1 → xs[n]? = some x → ys[n]? = some y → EvT tt (((wipe σ vs).set i (some x)).set j (some y)) H1 (f n)) (he : ∀ (n : Nat) (x y : V) H1, Ex H H1 → xs[n]? = some x → ys[n]? = some y → f n = true → Ev te (((wipe σ vs).set i (some x)).set j (some y)) H1 (v n)) :
    EvL (tLc (iZip K t) (gTup K 2 (gCons (gName i) (gCons (gName j) gNil))) tt te vs) σ H (given xs.length f v) := fun H0 e Q q => h H0 e _ fun H1 e1 => ⟨a, b, xs, ys, rfl, ex_l (e.trans e1) hx, ex_l (e.trans e1) hy, fun Dl hD =>
  lc_it (walk_zip (K := K) (a := a) (b := b) (xs := xs) (ys := ys) (n := xs.length) (by omega)) (Cw H1 f v Dl) ⟨hD, Ex.new hD, upd_same⟩ (fun i H' _ p => ⟨ex_l ((e.trans e1).trans p.2.1) hx, ex_l ((e.trans e1).trans p.2.1) hy⟩)
    (fun n z H2 H2' hn p y => by
      obtain ⟨T, x1, y1, rfl, hT, rfl, h1, h2⟩ := y
      have p' : Cw H1 f v Dl n (upd H2 T (.tup [x1, y1])) := ⟨p.1, p.2.1.trans (Ex.new hT), (Ex.new hT) _ _ p.2.2⟩
      have e2 := ((e.trans e1).trans p'.2.1)
      refine ⟨T, _, rfl, st_of upd_same, rfl, _, _, rfl, _, _, rfl, rfl, hw x1 y1, cw_turn (H := H1) p' (by omega) ?_ ?_⟩
      · exact ht n x1 y1 H1 (e.trans e1) h1 h2
      · exact fun hf => he n x1 y1 H1 (e.trans e1) h1 h2 hf)
    (fun H' p => q Dl H' (fresh_back e1 p.1) (e1.trans p.2.1) p.2.2)⟩
end LO

set_option Elab.async false
set_option linter.all false
set_option maxRecDepth 100000
set_option maxHeartbeats 4000000
namespace LN
open PySem PySem.Spec PyProof.Rows L2 Evl LT LG LS LQ
section
variable {X : Cx} {σ : L2.St} {H : Hp} {P : Addr} {scope : Scope} {x : Str} {u : Value} {a b c : Expr} {za zb zc z : V} {pos p : Pos}
theorem qv_ixL {l : Addr} {xs : List V} {i : Int} (hT : Tab H P) (hq : SqL X.K H l xs) (he : atI xs i = some z) (h0 : 0 ≤ i) (ha : QV X σ H P scope x u a (.ref l)) (hb : QV X σ H P scope x u b (.int i)) (hs : PlainIx b := by intro _ _; rfl) : QV X σ H P scope x u (.Subscript a b pos) z := fun cenv A' E' s m F =>
  Subscript_ (qv_two (f := fun v w => subscriptTail a b v w) ha hb (fun cenv A' E' s2 m2 v w F2 r1 r2 => by
    cases r1
    obtain ⟨t, rfl⟩ := r2
    obtain ⟨its, r, pl, hz⟩ := F2.list hT hq
    obtain ⟨j, h1, h2, h3, h4, h5⟩ := atI_get he
    obtain ⟨w', ew, rw'⟩ := r.get h2
    have hl := r.length
    have hn := line63
    have hj : i.toNat = j := by
      rw [seqIndex_of h0 h5] at h1
      exact Option.some.inj h1
    exact item_listR pl.isList h0 (by omega) (by rw [hj]; simpa using ew) ⟨rw', kp_refl _⟩ (hs _ _)) cenv A' E' s m F)
theorem qv_ixT {l : Addr} {xs : List V} {i : Int} (hT : Tab H P) (hq : SqT X.K H l xs) (he : atI xs i = some z) (ha : QV X σ H P scope x u a (.ref l)) (hb : QV X σ H P scope x u b (.int i)) (hs : PlainIx b := by intro _ _; rfl) : QV X σ H P scope x u (.Subscript a b pos) z := fun cenv A' E' s m F =>
  Subscript_ (qv_two (f := fun v w => subscriptTail a b v w) ha hb (fun cenv A' E' s2 m2 v w F2 r1 r2 => by
    cases r1
    obtain ⟨t, rfl⟩ := r2
    obtain ⟨its, r, pl, hz⟩ := F2.tuple hT hq
    obtain ⟨j, h1, h2, h3, h4, h5⟩ := atI_get he
    obtain ⟨w', ew, rw'⟩ := r.get h2
    have hl := r.length
    have hn := line63
    exact subscriptTail_builtinR (x := w') pl.typeIs slot_tuple_getitem.lookup
      (getItem_tuple (j := j) (Q := fun r s' => r = w' ∧ (RelV z r ∧ Keeps s2 s')) pl (by omega) (by omega) (by rw [List.size_toArray, ← hl]; exact h1) (by simpa using ew) ⟨rfl, rw', kp_refl _⟩) (hs _ _)) cenv A' E' s m F)
theorem qr_ltT {l r : Addr} {ns ms : List Int} (hT : Tab H P) (hu : X.A.units + 8 < cLine) (ha : SqT X.K H l (ns.map V.int)) (hb : SqT X.K H r (ms.map V.int)) : QR X σ H P scope x u (compareOp .Lt) (.ref l) (.ref r) (.bl (HT.lexLt ns ms)) := fun cenv A' E' s m v w F r1 r2 => by
  cases r1
  cases r2
  obtain ⟨its, r1, p1, _⟩ := F.tuple hT ha
  obtain ⟨its2, r2, p2, _⟩ := F.tuple hT hb
  have i1 : IntsAre its.toArray.toList ns := intsAre_of r1
  have i2 : IntsAre its2.toArray.toList ms := intsAre_of r2
  exact HT.lt_tupInts p1 p2 i1 i2 (Nat.lt_of_le_of_lt F.un hu) ⟨rfl, kp_refl _⟩
theorem qr_lt_int {i j : Int} : QR X σ H P scope x u (compareOp .Lt) (.int i) (.int j) (.bl (decide (i < j))) := fun cenv A' E' s m v w F r1 r2 => by
  obtain ⟨t, rfl⟩ := r1
  obtain ⟨t', rfl⟩ := r2
  exact lt_int ⟨rfl, kp_refl _⟩
theorem qv_chain {op op' : CmpOp} {f g : Bool} (hr : QR X σ H P scope x u (compareOp op) za zb (.bl f)) (hr' : QR X σ H P scope x u (compareOp op') zb zc (.bl g)) (ha : QV X σ H P scope x u a za) (hb : QV X σ H P scope x u b zb) (hc : QV X σ H P scope x u c zc)
    (hm : lastMarks [op, op'] [b, c] = false := by with_unfolding_all rfl) : QV X σ H P scope x u (.Compare a [op, op'] [b, c] pos) (.bl (f && g)) := fun cenv A' E' s m F => by
  refine Compare_chain (wpAny_mono (ha cenv A' E' s m F) (fun v s1 r1 => chain_link (wpAny_mono (hb cenv A' E' s1 m (F.keeps r1.2)) (fun w s2 r2 => wpAny_mono (hr cenv A' E' s2 m v w ((F.keeps r1.2).keeps r2.2) r1.1 r2.1) (fun d s3 r3 => ?_) fun _ _ e => e) fun _ _ e => e)) fun _ _ e => e) hm
  obtain ⟨rfl, k3⟩ := r3
  have k := kp_trans (kp_trans r1.2 r2.2) k3
  refine wpAny_truthy_bool ?_
  cases f with
  | false => exact ite_ff ⟨rfl, k⟩
  | true => exact ite_tt (chain_last (wpAny_mono (hc cenv A' E' s3 m (F.keeps k)) (fun y s4 r4 => wpAny_mono (hr' cenv A' E' s4 m w y ((F.keeps k).keeps r4.2) r2.1 r4.1) (fun e s5 r5 => ⟨r5.1, kp_trans (kp_trans k r4.2) r5.2⟩) fun _ _ e => e) fun _ _ e => e))
/-- an own def of one argument, a pair that it unpacks; it returns one test of each part -/
theorem qv_call2 {nm pn qual ya yb : Str} {st : Stmt} {f : Addr} {fd : FuncData} {N : List Str} {e1 e2 : Expr} {py1 py2 tp np ap bp rp : Pos} {kt k : Nat} {t : Addr} {v1 v2 : V} {c1 c2 : Bool} (hr : Room k X.A) (hT : Tab H P) (hk : scope.kind = .function) (hl : scope.names.lookup nm = some .globalImplicit) (hm : X.mg nm = some (.ref f)) (F : Fun X.K nm qual st f fd)
    (hbody : defBody st = [.Assign [.Tuple [.Name ya py1, .Name yb py2] kt tp] (.Name pn np) ap, .Return (some (.BoolOp .And [e1, e2] bp)) rp]) (S : FnScope N [pn] (defScope st)) (hloc : (defScope st).names.lookup pn = some .local) (hla : (defScope st).names.lookup ya = some .local) (hlb : (defScope st).names.lookup yb = some .local) (hab : ya ≠ yb)
    (hb : Binds X.K fd [pn] []) (ha : QV X σ H P scope x u a (.ref t)) (ht : SqT X.K H t [v1, v2])
    (h1 : ∀ (A0 : Around) (v : Value), RelV v1 v → QV { X with A := A0 } σ H P (defScope st) ya v e1 (.bl c1)) (h2 : ∀ (A0 : Around) (v : Value), RelV v2 v → QV { X with A := A0 } σ H P (defScope st) yb v e2 (.bl c2))
    (hs : ∀ env, starEach [a] env = (false, eval a env) :: starEach [] env := by intro _; rfl) (hd : (nm == ("__debug__" : Str)) = false := by decide) (hdp : (pn == ("__debug__" : Str)) = false := by decide) :
    QV X σ H P scope x u (.Call (.Name nm p) [a] [] pos) (.bl (c1 && c2)) := fun cenv A' E' s m Fc0 => by
  refine wpAny_Call_Name_kw (Calls.Name_function_global (by rw [Fc0.sc]; exact hk) (show cenv.scope.names.lookup nm = some .globalImplicit by rw [Fc0.sc]; exact hl) (Calls.loadGlobal_global (by rw [Fc0.gl]; exact Fc0.md.glob.keeps Fc0.base) hm ?_) hd)
  refine PySem.W.callWith_K (h₀ := X.base) Fc0.md.kin F.kp ?_ (hs cenv) (by rfl)
  rw [hs cenv]
  show wpAny _ _ (spliced ((false, eval a cenv) :: [])) _ _ s
  refine Calls.spliced_cons (wpAny_mono (ha cenv A' E' s m Fc0) (fun v s1 r1 => Calls.spliced_nil ?_) fun _ _ e => e)
  have F1 := Fc0.keeps r1.2
  refine ⟨F1.kin, ?_⟩
  obtain ⟨oc, od, kV, doc, pm, an, cdv, ct, osl, rfl, lk, hcd⟩ := F.ex
  have rv := r1.1
  refine wpAny_call (Att.call_fn (binds := [(pn, v)]) F1.kin (F1.md.nolimit.keeps F1.base) lk hcd (by have := hr.dp; have := Fc0.dp; omega) (hb s1 [v] F1.kin rfl) ?_ (fun s2 IC => ?_) S.co S.gen S.kind)
  · simp only [List.all_cons, List.all_nil, Bool.and_true, Bool.or_eq_true, beq_iff_eq]
    exact .inl hloc
  · obtain ⟨h2', tk2, rfl⟩ := IC.toInCall.same
    have kk : ∀ b o, s1.heap.get? b = some o → h2'.get? b = some o := IC.toInCall.keep
    rw [hbody]
    have Fn : Fc { X with A := A' } σ H P (defScope st) pn v (envOfC qual (defScope st) s1.heap.objs.size f cdv) (A'.deeper (envOfC qual (defScope st) s1.heap.objs.size f cdv)) { s1 with heap := h2', toks := tk2 } _ :=
      ⟨Fc0.hd, Nat.le_refl _, by show A'.units + 3 ≤ A'.units + 8; omega, rfl, rfl, rfl, IC.toInCall.ns, by
        show bindL _ [(pn, v)] _ pn = some v
        unfold bindL
        have hkd : (envOfC qual (defScope st) s1.heap.objs.size f cdv).kindOf pn = some .local := hloc
        rw [hkd]
        simp [bindL], fun b o e => kk b o (F1.base b o e), F1.md, F1.hok.kept kk, fun i y w h1 h2 h3 h4 => absurd rfl (S.nofree (y, .free) (lookup_mem' h4))⟩
    cases rv
    obtain ⟨its, ri, tup, _⟩ := Fn.tuple hT ht
    cases ri with
    | cons ra rr =>
      rename_i w1 wr
      cases rr with
      | cons rb rn =>
        rename_i w2 wn
        cases rn
        refine wpAny_execs_cons (Assign_Tuple (wpAny_mono (qv_x (X := { X with A := A' }) S.kind hloc (show RelV (.ref t) (.ref t) from rfl) hdp _ _ _ _ _ Fn) (fun y s3 r3 => ?_) fun _ _ e => e))
        obtain ⟨ry, h3, tk3, rfl, k3⟩ := r3
        cases ry
        refine assign_Tuple_tuple Fn.hd (tup.keeps k3) (by rfl) (by rfl) fun h4 hx4 => ?_
        have kL : ∀ b o, s1.heap.get? b = some o → b ≠ s1.heap.objs.size := fun b o e => Nat.ne_of_lt (Heap.lt_size e)
        have kx : ∀ b o, h3.get? b = some o → h4.get? b = some o := fun b o e => hx4 b o (Nat.ne_of_lt (Heap.lt_size e)) e
        have n4 := ((Fn.keeps ⟨h3, tk3, rfl, k3⟩).keeps (s₃ := { s1 with heap := h4, toks := tk3 }) ⟨h4, tk3, rfl, kx⟩).ns
        refine assignInOrder_cons (assign_Name (wpAny_storeName_local hla n4 (fun h5 n5 b5 => ?_) (by simp [envOfC, S.kind])))
        refine assignInOrder_cons (assign_Name (wpAny_storeName_local hlb n5 (fun h6 n6 b6 => ?_) (by simp [envOfC, S.kind])))
        refine assignInOrder_nil ?_
        have k6 : ∀ b o, s1.heap.get? b = some o → h6.get? b = some o := fun b o e => b6.extBut b o (kL b o e) (b5.extBut b o (kL b o e) (kx b o (k3 b o (kk b o e))))
        have FF : ∀ (y : Str) (w : Value), (if y = yb then some w2 else if y = ya then some w1 else none) = some w → Fc { X with A := A' } σ H P (defScope st) y w (envOfC qual (defScope st) s1.heap.objs.size f cdv) (A'.deeper (envOfC qual (defScope st) s1.heap.objs.size f cdv)) { s1 with heap := h6, toks := tk3 + 1 + 1 } _ := fun y w e => by
          refine ⟨Fc0.hd, Nat.le_refl _, (by show A'.units + 3 ≤ A'.units + 8; omega), rfl, rfl, rfl, n6, ?_, fun b o e => k6 b o (F1.base b o e), F1.md, F1.hok.kept k6, fun i y w h1 h2 h3 h4 => absurd rfl (S.nofree (y, .free) (lookup_mem' h4))⟩
          show (if y = yb then some w2 else if y = ya then some w1 else _) = some w
          by_cases q1 : y = yb
          · rw [if_pos q1] at e ⊢
            exact e
          · rw [if_neg q1] at e ⊢
            by_cases q2 : y = ya
            · rw [if_pos q2] at e ⊢
              exact e
            · rw [if_neg q2] at e
              cases e
        refine wpAny_execs_cons (wpAny_Return_some (BoolOp_and (wpAny_mono (h1 A' w1 ra _ _ _ _ _ (FF ya w1 (by rw [if_neg hab, if_pos rfl]))) (fun y s7 r7 => ?_) fun _ _ e => e)))
        obtain ⟨rfl, k7⟩ := r7
        refine wpAny_truthy_bool ?_
        have kA := kp_trans r1.2 (kp_trans (s1 := { s1 with heap := h6, toks := tk3 + 1 + 1 }) ⟨h6, _, rfl, k6⟩ k7)
        cases c1 with
        | true => exact BoolOp_one (wpAny_mono (h2 A' w2 rb _ _ _ _ _ ((FF yb w2 (if_pos rfl)).keeps k7)) (fun y s8 r8 => ⟨r8.1, kp_trans kA r8.2⟩) fun _ _ e => e)
        | false => exact ⟨rfl, kA⟩
end
/-! ### a list of pairs is walked -/
def SrcT (K : PySem.W.Frag) (H : Hp) (v : V) (n : Nat) (xs : Nat → V) : Prop := ∃ (a : Addr) (l : List V), v = .ref a ∧ SqL K H a l ∧ n = l.length ∧ ∀ i, i < n → ∃ (T : Addr) (y : V), l[i]? = some (.ref T) ∧ SqT K H T [y, xs i]
section
variable {X : Cx} {pins : List (Addr × Obj)} {σ : L2.St} {H : Hp} {s : Shared}
theorem src_iterT {v : V} {xv : Value} {n : Nat} {xs : Nat → V} {P : Addr} {Q : Value → Shared → Prop} {E : Value → Shared → Prop} (S : SrcT X.K H v n xs) (I : Inv X pins σ H s) (r : RelV v xv) (hT : Tab H P)
    (h : ∀ (o : Obj) (fp : List Addr) (Pf : Nat → Array Value → Prop) (St : Nat → Heap → Prop) (Mid : Nat → Addr → Heap → Prop), (∀ i va vb, Pf i #[va, vb] → i < n ∧ RelV (xs i) vb) → (∀ A' : Around, A'.handled = none → WalksU X.prog X.w A' s.heap.objs.size fp [s.heap.objs.size] n Pf St Mid) → (∀ i vals, Pf i vals → ∃ va vb, vals = #[va, vb]) →
      St 0 (s.heap.push o) → (∀ b ∈ fp, b ≤ s.heap.objs.size ∧ b ≠ P) → Q (.ref s.heap.objs.size) { s with heap := s.heap.push o }) : wpAny (model X.prog X.w) X.A (pyIter xv) Q E s := by
  have Plt : P < s.heap.objs.size := Heap.lt_size (hT.of_ok I.hok).choose_spec.1
  have szP : s.heap.objs.size ≠ P := fun z => Nat.lt_irrefl _ (z ▸ Plt : s.heap.objs.size < s.heap.objs.size)
  obtain ⟨a, l, rfl, hl, rfl, hx⟩ := S
  cases r
  obtain ⟨its, rv, pl, _⟩ := I.list hl
  have hal : a < s.heap.objs.size := let ⟨_, e, _⟩ := pl.isList; Heap.lt_size e
  have naP : a ≠ P := fun e => by
    obtain ⟨ps, e1, _⟩ := hT.of_ok I.hok
    obtain ⟨o, n, e2, e3, _, e4⟩ := pl
    rw [e, e1] at e2
    cases e2
    cases e3
  have hne : a ≠ s.heap.objs.size := Nat.ne_of_lt hal
  have en : its.toArray.size = l.length := by rw [List.size_toArray]; exact rv.length.symm
  have ev : ∀ i : Nat, ∃ (T : Addr) (va vb : Value), i < l.length → its.toArray[i]? = some (.ref T) ∧ IsTup s.heap T #[va, vb] ∧ RelV (xs i) vb := fun i => by
    by_cases hi : i < l.length
    · obtain ⟨T, y, e1, e2⟩ := hx i hi
      obtain ⟨w, ew, rw'⟩ := rv.get e1
      cases rw'
      obtain ⟨js, rj, tj, _⟩ := I.tuple e2
      cases rj with
      | cons ra rr =>
        rename_i w1 wr
        cases rr with
        | cons rb rn =>
          rename_i w2 wn
          cases rn
          exact ⟨T, w1, w2, fun _ => ⟨by simpa using ew, tj, rb⟩⟩
    · exact ⟨0, .none, .none, fun h => absurd h hi⟩
  refine wpAny_pyIter_list pl.isList ?_
  let Ts : Nat → Addr := fun i => (ev i).choose
  let va : Nat → Value := fun i => (ev i).choose_spec.choose
  let vb : Nat → Value := fun i => (ev i).choose_spec.choose_spec.choose
  have sp : ∀ i, i < l.length → its.toArray[i]? = some (.ref (Ts i)) ∧ IsTup s.heap (Ts i) #[va i, vb i] ∧ RelV (xs i) (vb i) := fun i => (ev i).choose_spec.choose_spec.choose_spec
  have tlt : ∀ i, i < l.length → Ts i < s.heap.objs.size := fun i hi => (sp i hi).2.1.lt
  have tnP : ∀ i, i < l.length → Ts i ≠ P := fun i hi e => by
    obtain ⟨ps, e1, _⟩ := hT.of_ok I.hok
    obtain ⟨o, e2, e3, _⟩ := (sp i hi).2.1
    rw [e, e1] at e2
    cases e2
    cases e3
  refine h _ (s.heap.objs.size :: a :: (List.range its.toArray.size).map Ts) (fun j v => j < l.length ∧ v = #[va j, vb j]) (fun j h => h.IsListIter s.heap.objs.size a j ∧ h.IsList a its.toArray ∧ ∀ k, k < its.toArray.size → h.IsTuple (Ts k) #[va k, vb k]) (fun j T h => (j < its.toArray.size ∧ T = Ts j) ∧ h.IsListIter s.heap.objs.size a (j + 1) ∧ h.IsList a its.toArray ∧ ∀ k, k < its.toArray.size → h.IsTuple (Ts k) #[va k, vb k]) (fun i wa wb hp => ?_) (fun A' hA => ?_) (fun i vals hp => ⟨_, _, hp.2⟩) ⟨⟨_, Heap.get?_push_size _ rfl, rfl, rfl⟩, pl.isList.at fun o e => Heap.get?_push_of_some _ e, fun k hk => ?_⟩ fun b hb => ?_
  · obtain ⟨hi, e⟩ := hp
    have e2 : wb = vb i := (by simpa using congrArg Array.toList e : wa = va i ∧ wb = vb i).2
    rw [e2]
    exact ⟨hi, (sp i hi).2.2⟩
  · have W := WalksU.listOfTuples (prog := X.prog) (w := X.w) hA s.heap.objs.size a hne its.toArray Ts (fun i => #[va i, vb i]) (fun j hj => (sp j (by rw [← en]; exact hj)).1) (fun j hj => Nat.ne_of_lt (tlt j (by rw [← en]; exact hj)))
    rw [← en]
    exact ⟨W.sub, W.frame, fun i s Q E hi st hQ => W.item i s Q E hi st fun T vals h' tk hv => hQ T vals h' tk ⟨hi, hv⟩, W.go, W.apart, W.done, W.self⟩
  · exact Heap.IsTuple.at ((sp k (by rw [← en]; exact hk)).2.1) fun o e => Heap.get?_push_of_some _ e
  · rcases List.mem_cons.mp hb with e | hb
    · rw [e]
      exact ⟨Nat.le_refl _, szP⟩
    · rcases List.mem_cons.mp hb with e | hb
      · rw [e]
        exact ⟨Nat.le_of_lt hal, naP⟩
      · obtain ⟨i, hi, rfl⟩ := List.mem_map.mp hb
        have hi' : i < l.length := by rw [← en]; exact List.mem_range.mp hi
        exact ⟨Nat.le_of_lt (tlt i hi'), tnP i hi'⟩
theorem gen_makeT {c P : Addr} {elt iter : Expr} {xa x : Str} {pa px pt gpos : Pos} {kt : Nat} {scope : Scope} {te : TE} {k : Nat} {Q' : Value → Shared → Prop} {R : Nat → (Nat → Bool) → Hp → Prop}
    (hr : Room k X.A) (TB : LamX.TabB X.base X.mg c P) (hcode : X.env.code = .ref c) (S : GxR.GenS X.env scope x) (hxa : scope.names.lookup xa = some .local) (hab : xa ≠ x) (hi : PE X iter te) (hs : ∀ v, genFold iter X.env v = pure v) (I : Inv X pins σ H s)
    (h : te σ H fun v H1 => Tab H1 P ∧ ∃ (n : Nat) (xs : Nat → V) (f : Nat → Bool), SrcT X.K H1 v n xs ∧ (∀ i u, i < n → RelV (xs i) u → QV X σ H1 P scope x u elt (.bl (f i))) ∧ R n f H1)
    (hQ : ∀ n f H1 g s5, R n f H1 → RdyG X pins σ H1 n f g s5 → Q' (.ref g) s5) :
    wpAny (model X.prog X.w) X.A (eval (.GeneratorExp elt [⟨.Tuple [.Name xa pa, .Name x px] kt pt, iter, [], 0⟩] scope gpos) X.env) Q' X.xe s := by
  refine wpAny_GeneratorExp_walksQTD hr.hd S.co (closure_ok S.free) S.cell S.dot hxa S.loc hab S.kind hr.depth ?_ hs
  refine thn (hi.run pins s σ H _ I h) fun xv s1 ⟨v, H1, I1, r1, hT, n, xs, f, hsrc, hel, hR⟩ => ?_
  refine src_iterT hsrc I1 r1 hT fun o fp Pf St Mid hPf hW hsz2 hst hfp => ?_
  obtain ⟨ps, hPs, ht⟩ := hT.of_ok I1.hok
  have hPlt : P < s1.heap.objs.size := Heap.lt_size hPs
  have hP2 : (s1.heap.push o).get? P = some { cls := .none, data := .fields ps } := Heap.get?_push_of_some _ hPs
  have cd : PySem.W.CodeHd (s1.heap.push o) c P := TB.code.keeps fun b u e => Heap.get?_push_of_some _ (I1.bk b u e)
  have lim2 : (s1.heap.push o).NoLimit := I1.nolimit.push o
  have hcP : cStatics ≠ P := fun e => by
    obtain ⟨_, ⟨o', es, ep, ho, hd, _⟩, _⟩ := I1.nolimit
    rw [e, hPs] at ho
    cases ho
    cases hd
  have hcl : cStatics < s1.heap.objs.size := let ⟨_, hns, _⟩ := I1.nolimit; hns.lt
  have sz2 : (s1.heap.push o).objs.size = s1.heap.objs.size + 1 := Heap.size_push ..
  have nTb : ∀ b, H1 b = none → b ≠ P := fun b e z => by
    rw [z, hT] at e
    cases e
  -- what is left once the code object is known
  have go : ∀ (code : Value) (h3 : Heap) (tk : Nat) (ps' : Array Value), Heap.ExtBut P (s1.heap.push o) h3 → (s1.heap.push o).objs.size ≤ h3.objs.size → h3.get? P = some { cls := .none, data := .fields ps' } → TriplesOk ps'.toList →
      wpAny (model X.prog X.w) X.A (builtinsFor X.env.globals X.env.builtins) (fun bi s₄ => ∃ I fp wr n₀ Pg St₀ Mid pz F, Value.ref s1.heap.objs.size = .ref I ∧ (∀ A' : Around, A'.handled = none → WalksU X.prog X.w A' I fp wr n₀ Pg St₀ Mid) ∧ (∀ i vals, Pg i vals → ∃ va vb, vals = #[va, vb]) ∧ St₀ 0 s₄.heap ∧ (∀ b ∈ fp, b < s₄.heap.objs.size) ∧ s₄.heap.NoLimit ∧ cStatics ∉ wr ∧
          (∀ href : Heap, (∀ b o, s₄.heap.get? b = some o → href.get? b = some o) → QuietGenTD X.prog X.w (genEnv scope (cloFrom X.env.cells scope.names []) s₄.heap.objs.size code bi X.env) xa x [] elt (List.range s₄.heap.objs.size) wr Pg pz F href (X.A.depth + 1) (X.A.units + 8)) ∧
          (∀ a h₅ tk gs, gs.bare = true → s₄.heap.objs.size < a → h₅.objs.size = a + 1 → (∀ b o, s₄.heap.get? b = some o → h₅.get? b = some o) →
            WalksS X.prog X.w X.A.in4 a (a :: s₄.heap.objs.size :: List.range s₄.heap.objs.size) (s₄.heap.objs.size :: wr) (GenOnlyQ s₄.gens.size) (passing pz n₀ 0).length (fun j y => ∃ i, (passing pz n₀ 0)[j]? = some i ∧ F i y) (GenAt X.prog X.w X.A.in4 a s₄.gens.size s₄.heap.objs.size (List.range s₄.heap.objs.size) wr pz n₀ F) →
            GenAt X.prog X.w X.A.in4 a s₄.gens.size s₄.heap.objs.size (List.range s₄.heap.objs.size) wr pz n₀ F 0 { s₄ with gens := s₄.gens.push gs, toks := tk, heap := h₅ } →
            Q' (.ref a) { s₄ with gens := s₄.gens.push gs, toks := tk, heap := h₅ })) X.xe { s1 with heap := h3, toks := tk } := by
    intro code h3 tk ps' hx hsz hP3 ht3
    obtain ⟨bm, ob, e1, e2, e3, e4, e5, e6, e7, e8⟩ := TB.bm
    have keep3 : ∀ b u, b ≠ P → s1.heap.get? b = some u → h3.get? b = some u := fun b u hb e => hx b u hb (Heap.get?_push_of_some _ e)
    refine wpAny_builtinsFor (m := X.mg) (by rw [I1.ok.glob]; exact ((I1.mod.glob.keeps I1.bk).push o).extBut hx TB.gP) e1 e2 (keep3 _ _ e4 (I1.bk _ _ e5)) e6 e7 e8 ?_
    have hsz3 : s1.heap.objs.size < h3.objs.size := by omega
    refine ⟨s1.heap.objs.size, fp, [s1.heap.objs.size], n, Pf, St, Mid, fun _ => true, fun i y => y = .bool (f i), rfl, hW, hsz2, ?_, fun b hb => Nat.lt_of_le_of_lt (hfp b hb).1 hsz3, lim2.extBut hx hcP, ?_, ?_, ?_⟩
    · exact (hW X.A hr.hd).frame _ _ _ hst fun b hb u e => hx b u (hfp b hb).2 e
    · intro z
      rw [List.mem_singleton.mp z] at hcl
      exact Nat.lt_irrefl _ hcl
    · intro href hhref
      refine ⟨fun A' E' i va v s₂ m₂ hA hD hU hPv hn hma hm hk => ?_, fun A' E' i va v s₂ m₂ hA hD hU hPv hp hn hma hm hk => ?_⟩
      · simp only [List.forIn_nil]
        exact wpAny_pure ⟨rfl, kp_refl _⟩
      · have kept : ∀ b u, b ≠ P → s1.heap.get? b = some u → s₂.heap.get? b = some u := fun b u hb e => by
          have hlt := Heap.lt_size e
          refine hk b (List.mem_range.mpr ?_) (fun z => ?_) u (hhref b u (keep3 b u hb e))
          · show b < h3.objs.size
            exact Nat.lt_trans hlt hsz3
          · rw [List.mem_singleton.mp z] at hlt
            exact Nat.lt_irrefl _ hlt
        refine wpAny_mono (hel i v (hPf i va v hPv).1 (hPf i va v hPv).2 _ A' E' s₂ m₂ ⟨hA, hD, hU, rfl, I1.ok.glob, rfl, hn, hm, fun b u e => kept b u (nTb b (I1.bs b u e).2) (I1.bk b u e), I1.mod, fun b u e => ?_, fun j y w hN hσ hv hfr => ?_⟩) (fun y s3 r => ⟨r.1, r.2⟩) fun _ _ e => e
        · have hb : b ≠ P := fun z => by
            rw [z] at e
            unfold but at e
            rw [if_pos rfl] at e
            cases e
          rw [but_ne hb] at e
          refine (I1.hok b u e).stay (fun d w hd q => kept d w ?_ q) (fun d q => ?_) fun d ys q => ?_
          · rcases hd with z | z
            · rw [z]
              exact hb
            · intro e2
              rw [e2, hT] at z
              cases z
          · rw [but_ne fun e2 => by rw [e2, hT] at q; cases q]
            exact q
          · rw [but_ne fun e2 => by rw [e2, hT] at q; cases q]
            exact q
        · obtain ⟨m, hn1, hl⟩ := I1.loc
          obtain ⟨r, rv, l⟩ := hl j y w hN hσ (hv.elim (fun z => Or.inr (Or.inl z)) (fun z => Or.inr (Or.inr z)))
          rcases l with ⟨z, _⟩ | ⟨_, cc, hc, oc, he, hd⟩
          · rcases hv with z2 | z2
            · rw [z] at z2; cases z2
            · rw [z] at z2; cases z2
          · exact ⟨r, cc, rv, clo_lookup (lookup_mem' hfr) hc, oc, kept cc oc (nTb cc (I1.freeC y cc hc)) he, hd⟩
    · intro g h5 tk5 gs hgb hag hsz5 hk5 W5 hat
      simp only [GxR.passing_true, List.length_range] at W5
      refine hQ n f H1 g _ hR ⟨_, _, _, _, _, W5.in4_1, hat, fun j y sj Qj Ej hy hQj => ?_, fun s' hm => ?_⟩
      · obtain ⟨i, hij, rfl⟩ := hy
        obtain ⟨hj, ej⟩ := List.getElem?_eq_some_iff.mp hij
        rw [List.getElem_range] at ej
        subst ej
        exact wpAny_truthy_bool hQj
      · have nwr : ∀ b u, s1.heap.get? b = some u → b ∉ h3.objs.size :: [s1.heap.objs.size] := fun b u e hb => by
          have hl := Heap.lt_size e
          rcases List.mem_cons.mp hb with z | z
          · rw [z] at hl
            exact Nat.lt_irrefl _ (Nat.lt_trans hl hsz3)
          · rw [List.mem_singleton.mp z] at hl
            exact Nat.lt_irrefl _ hl
        exact inv_grown I1 hT (fun b u hb e => hm.heap b u (nwr b u e) (hk5 b u (keep3 b u hb e))) ⟨ps', hm.heap P _ (nwr P _ hPs) (hk5 P _ hP3), ht3⟩ hm.os (AllBare.movedS (I1.bare.push hgb) hm)
  refine ⟨lim2, ?_⟩
  cases hf : codeAmong gpos ps.toList with
  | some cv => exact wpAny_genexprCode_hit hcode (cd.code hP2 ht) hf (go cv (s1.heap.push o) s1.toks ps (Heap.ExtBut.refl _ _) (Nat.le_refl _) hP2 ht)
  | none =>
    refine wpAny_genexprCodeX hcode (cd.code hP2 ht) (cd.tab hP2) hf fun c' h' tk hx hge hlt hco' _ htab' _ => ?_
    obtain ⟨_, _, _, _, _, _, _, _, _, _, _, _, _, _, _, _, _, _, _, htr, _⟩ := hco'
    exact go _ h' tk _ hx (Nat.le_trans hge (Nat.le_of_lt hlt)) htab'.2 htr
def tGenT (X : Cx) (P : Addr) (scope : Scope) (x : Str) (elt : Expr) (fin : Nat → (Nat → Bool) → Bool) (te : TE) : TE := fun σ H Q => te σ H fun v H1 => Tab H1 P ∧ ∃ (n : Nat) (xs : Nat → V) (f : Nat → Bool), SrcT X.K H1 v n xs ∧ (∀ i u, i < n → RelV (xs i) u → QV X σ H1 P scope x u elt (.bl (f i))) ∧ Q (.bl (fin n f)) H1
theorem pe_allT {c P : Addr} {elt iter : Expr} {xa x : Str} {pa px pt p pos gpos : Pos} {kt : Nat} {scope : Scope} {te : TE} {k : Nat} (hr : Room k X.A) (hg : Gl X "all") (hm : X.mg "all" = none) (hb : bootBuiltins "all" = some (.builtin "all")) (TB : LamX.TabB X.base X.mg c P) (hcode : X.env.code = .ref c) (S : GxR.GenS X.env scope x) (hxa : scope.names.lookup xa = some .local) (hab : xa ≠ x)
    (hi : PE X iter te) (hs : ∀ v, genFold iter X.env v = pure v)
    (he : starEach [.GeneratorExp elt [⟨.Tuple [.Name xa pa, .Name x px] kt pt, iter, [], 0⟩] scope gpos] X.env = (false, eval (.GeneratorExp elt [⟨.Tuple [.Name xa pa, .Name x px] kt pt, iter, [], 0⟩] scope gpos) X.env) :: starEach [] X.env := by rfl) :
    PE X (.Call (.Name "all" p) [.GeneratorExp elt [⟨.Tuple [.Name xa pa, .Name x px] kt pt, iter, [], 0⟩] scope gpos] [] pos) (tGenT X P scope x elt allF te) := by
  refine ⟨fun pins s σ H Q I h => wpAny_Call_Name_kw (ld_blt I hg hm hb (PyProof.Rows.callWith_builtin1 ?_ he (by rfl)))⟩
  rw [he]
  show wpAny _ _ (spliced ((false, eval (.GeneratorExp elt [⟨.Tuple [.Name xa pa, .Name x px] kt pt, iter, [], 0⟩] scope gpos) X.env) :: backTo pos (starEach [] X.env))) _ _ s
  refine Calls.spliced_cons (gen_makeT (R := fun n f H1 => Q (.bl (allF n f)) H1) hr TB hcode S hxa hab hi hs I h fun n f H1 g s5 hR ⟨fp, wr, G, F, St₁, W, hst, htr, hI⟩ => Calls.spliced_nil ?_)
  exact call_all_walkS (W.self 0 _ _ _ hst ⟨g, fp, wr, G, _, F, St₁, _, rfl, W, hst, htr, fun s' hmv => ⟨.bl _, H1, hI s' hmv, rfl, hR⟩⟩)
end
section
variable {X : Cx}
theorem cr_range1 : CallR X (.type "range") (fun vs H Q => ∃ i, vs = [V.int i] ∧ ∀ p, H p = none → Q (.ref p) (upd H p (.rng 0 i))) := by
  intro pins s σ H vs us Q I r h
  obtain ⟨i, rfl, q⟩ := h
  cases r with
  | cons ri rn =>
    cases rn
    obtain ⟨t, rfl⟩ := ri
    refine call_range_1 ⟨.ref s.heap.objs.size, upd H s.heap.objs.size (.rng 0 i), I.laid (t' := _) (fun b o e => Heap.get?_push_of_some _ e) (Nat.le_refl _) ?_, rfl, q _ (I.hok.fresh (Nat.le_refl _))⟩
    exact ⟨_, _, _, Heap.get?_push_size _ rfl⟩
end
section
variable {K : PySem.W.Frag} {σ : L2.St} {H : Hp} {ta tb tc te : TE}
theorem ev_chain {f g : Int → Int → Bool} {i j k : Int} (ha : Ev ta σ H (.int i)) (hb : Ev tb σ H (.int j)) (hc : Ev tc σ H (.int k)) : Ev (tChain (rI0 fun i j => .bl (f i j)) (rI0 fun i j => .bl (g i j)) ta tb tc) σ H (.bl (f i j && g j k)) := fun H1 e Q q =>
  ha H1 e _ fun H2 e2 => hb H2 (e.trans e2) _ fun H3 e3 => ⟨i, j, rfl, rfl, f i j, rfl, by
    cases hf : f i j with
    | true =>
      rw [if_pos rfl]
      refine hc H3 ((e.trans e2).trans e3) _ fun H4 e4 => ⟨j, k, rfl, rfl, ?_⟩
      have := q H4 ((e2.trans e3).trans e4)
      rw [hf] at this
      exact this
    | false =>
      rw [if_neg Bool.false_ne_true]
      have := q H3 (e2.trans e3)
      rw [hf] at this
      exact this⟩
variable {X : Cx} {P : Addr} {scope : Scope} {x : Str} {elt : Expr} {fin : Nat → (Nat → Bool) → Bool}
/-- a generator expression over range(n) -/
theorem ev_genR {n : Int} {f : Nat → Bool} (h : Ev te σ H (.int n)) (hb : -(2 ^ 62) ≤ n ∧ n < 2 ^ 62) (hT : Tab H P) (he : ∀ H1, Ex H H1 → ∀ (i : Nat) u, (i : Int) < n → RelV (.int (i : Int)) u → QV X σ H1 P scope x u elt (.bl (f i))) :
    Ev (tGen X P scope x elt fin (tCB (fun vs H Q => ∃ i, vs = [V.int i] ∧ ∀ p, H p = none → Q (.ref p) (upd H p (.rng 0 i))) (tCons te tNil))) σ H (.bl (fin n.toNat f)) := fun H1 e Q q =>
  h H1 e _ fun H2 e2 => ⟨n, rfl, fun p hp => by
    have e3 := Ex.new (o := HO.rng 0 n) hp
    refine ⟨((hT.mono e).mono e2).mono e3, n.toNat, fun i => .int (0 + (i : Int)), f, .inr (.inr ⟨p, 0, n, rfl, upd_same, by rw [Int.sub_zero], by decide, by decide, hb.1, hb.2, fun i => rfl⟩), fun i u hi hu => he _ ((e.trans e2).trans e3) i u (by omega) (by have hu2 : RelV (.int (0 + (i : Int))) u := hu; rw [Int.zero_add] at hu2; exact hu2), q _ (e2.trans e3)⟩⟩
/-- a generator expression over a new list -/
theorem ev_genL {xs : List V} {f : Nat → Bool} (h : EvL te σ H xs) (hT : Tab H P) (he : ∀ H1, Ex H H1 → ∀ i u, i < xs.length → RelV (xs.getD i .non) u → QV X σ H1 P scope x u elt (.bl (f i))) :
    Ev (tGen X P scope x elt fin te) σ H (.bl (fin xs.length f)) := fun H1 e Q q =>
  h H1 e _ fun p H2 hp e2 h2 => ⟨hT.mono (e.trans e2), xs.length, fun i => xs.getD i .non, f, .inl ⟨p, xs, rfl, sq_of h2, rfl, fun i => rfl⟩, fun i u hi hu => he H2 (e.trans e2) i u hi hu, q H2 e2⟩
/-- over a list of pairs -/
theorem ev_genT {v : V} {n : Nat} {xs : Nat → V} {f : Nat → Bool} (h : Ev te σ H v) (hT : Tab H P) (hs : ∀ H1, Ex H H1 → SrcT X.K H1 v n xs) (he : ∀ H1, Ex H H1 → ∀ i u, i < n → RelV (xs i) u → QV X σ H1 P scope x u elt (.bl (f i))) :
    Ev (tGenT X P scope x elt fin te) σ H (.bl (fin n f)) := fun H1 e Q q => h H1 e _ fun H2 e2 => ⟨hT.mono (e.trans e2), n, xs, f, hs H2 (e.trans e2), he H2 (e.trans e2), q H2 e2⟩
/-- tuple(new list) -/
theorem eu_tupL {xs : List V} (h : EvL te σ H xs) : EvU (tCB (fun zs H Q => ∃ p ys, zs = [.ref p] ∧ ((SqL K H p ys ∧ ∀ l, H l = none → Q (.ref l) (upd H l (.tup ys))) ∨ (SqT K H p ys ∧ Q (.ref p) H))) (tCons te tNil)) σ H xs := fun H1 e Q q =>
  h H1 e _ fun p H2 hp e2 h2 => ⟨p, xs, rfl, .inl ⟨sq_of h2, fun l hl => q l _ (fresh_back e2 hl) (e2.trans (Ex.new hl)) upd_same⟩⟩
end
end LN

set_option Elab.async false
set_option linter.all false
set_option maxRecDepth 100000
set_option maxHeartbeats 4000000
namespace LP
open PySem PySem.Spec PyProof.Rows L2 Evl LT LG LS LX LO
/-! ### comprehensions whose elements are new objects: R i (those before) y heap -/
abbrev Rel := Nat → List V → V → Hp → Prop
def Mon (R : Rel) : Prop := ∀ i xs y H H', Ex H H' → R i xs y H → R i xs y H'
def EvR (te : TE) (σ : L2.St) (H : Hp) (n : Nat) (R : Rel) : Prop := ∀ H1, Ex H H1 → ∀ Q : VK, (∀ L xs H2, H1 L = none → Ex H1 H2 → H2 L = some (.lst xs) → xs.length = n → (∀ i y, xs[i]? = some y → R i (xs.take i) y H2) → Q (.ref L) H2) → te σ H1 Q
theorem but_ex {D : Addr} {H : Hp} : Ex (but D H) H := fun a o h => by
  unfold but at h
  split at h
  · cases h
  · exact h
theorem ex_but {D : Addr} {H H' : Hp} (e : Ex H H') : Ex (but D H) (but D H') := fun a o h => by
  unfold but at h ⊢
  split at h
  · cases h
  · rename_i n
    rw [if_neg n]
    exact e a o h
theorem but_upd {D : Addr} {H : Hp} {o : HO} : but D (upd H D o) = but D H := funext fun a => by
  unfold but
  split
  · rfl
  · rename_i n
    exact upd_ne n
/-- what is new later than D -/
theorem but_new {D l : Addr} {H2 H3 : Hp} {o : HO} (hD : H2 D ≠ none) (hl : H2 l = none) (h : H3 l = some o) : but D H3 l = some o := by
  rw [but_ne (fun e => hD (by rw [← e]; exact hl))]
  exact h
/-- what stood before D -/
theorem but_old {D l : Addr} {H H3 : Hp} {o : HO} (hD : H D = none) (h : H l = some o) (e : Ex H H3) : but D H3 l = some o := by
  rw [but_ne (fun z => by rw [z, hD] at h; cases h)]
  exact e _ _ h
def Cr (H : Hp) (R : Rel) (D : Addr) (i : Nat) (H' : Hp) : Prop := H D = none ∧ Ex H H' ∧ ∃ xs, H' D = some (.lst xs) ∧ xs.length = i ∧ ∀ j y, xs[j]? = some y → R j (xs.take j) y (but D H')
theorem cr_turn {H H' : Hp} {R : Rel} {D : Addr} {i : Nat} {te : TE} {σ2 : L2.St} (mon : Mon R) (p : Cr H R D i H') (hi : i < 50000)
    (he : H' D ≠ none → ∀ xs : List V, xs.length = i → (∀ j y, xs[j]? = some y → R j (xs.take j) y (but D H')) → ∀ Q : VK, (∀ y H3, Ex H' H3 → R i xs y (but D H3) → Q y H3) → te σ2 H' Q) :
    tYes σ2 H' fun b H3 => if b = true then te σ2 H3 fun y H4 => ∃ acc, H4 D = some (.lst acc) ∧ acc.length < sizeLine ∧ Cr H R D (i + 1) (upd H4 D (.lst (acc ++ [y]))) else Cr H R D (i + 1) H3 := by
  obtain ⟨p1, p2, xs, p3, p4, p5⟩ := p
  show te σ2 H' fun y H4 => ∃ acc, H4 D = some (.lst acc) ∧ acc.length < sizeLine ∧ Cr H R D (i + 1) (upd H4 D (.lst (acc ++ [y])))
  refine he (by rw [p3]; exact fun e => by cases e) xs p4 p5 _ fun y H4 e4 r => ⟨xs, e4 _ _ p3, sz_lt (by omega), p1, (p2.trans e4).mut p1, xs ++ [y], upd_same, by simp [p4], fun j z hz => ?_⟩
  rw [but_upd]
  by_cases hj : j < xs.length
  · rw [List.getElem?_append_left hj] at hz
    rw [List.take_append_of_le_length (Nat.le_of_lt hj)]
    exact mon _ _ _ _ _ (ex_but e4) (p5 j z hz)
  · have hj2 : j = xs.length := by
      have := (List.getElem?_eq_some_iff.mp hz).1
      simp at this
      omega
    subst hj2
    rw [List.getElem?_append_right (Nat.le_refl _), Nat.sub_self] at hz
    cases hz
    rw [List.take_left', ← p4] at *
    · rw [p4]; rw [p4] at r; exact r
    · rfl
section
variable {K : PySem.W.Frag} {σ : L2.St} {H : Hp} {R : Rel} {te tl : TE} {vs : List Nat} {j j2 : Nat}
theorem er_R1 {ta : TA} {n : Int} (h : EvA ta σ H [.int n]) (hn : 0 ≤ n ∧ n ≤ 40000) (hw : ∀ x, wipe ((wipe σ vs).set j (some x)) vs = wipe σ vs) (mon : Mon R)
    (he : ∀ (i : Nat) D H1, H D = none → Ex H H1 → H1 D ≠ none → (i : Int) < n → ∀ xs : List V, xs.length = i → (∀ j y, xs[j]? = some y → R j (xs.take j) y (but D H1)) → ∀ Q : VK, (∀ y H3, Ex H1 H3 → R i xs y (but D H3) → Q y H3) → te ((wipe σ vs).set j (some (.int (i : Int)))) H1 Q) :
    EvR (tLc (iRng1 ta) (gName j) tYes te vs) σ H n.toNat R := fun H0 e Q q => h H0 e _ fun H1 e1 => ⟨n, rfl, by omega, by omega, fun Dl hD =>
  lc_range (lo := 0) (n := n.toNat) (Cr H1 R Dl) ⟨hD, Ex.new hD, [], upd_same, rfl, fun j y hy => by simp at hy⟩ (fun i H' hi p => by
    have e0 : (0 : Int) + (i : Int) = (i : Int) := Int.zero_add _
    rw [e0]
    exact ⟨hw _, cr_turn mon p (by omega) (fun h1 xs h2 h3 => he i Dl H' (fresh_back (e.trans e1) hD) ((e.trans e1).trans p.2.1) h1 (by omega) xs h2 h3)⟩)
    (fun H' ⟨p1, p2, xs, p3, p4, p5⟩ => q Dl xs H' (fresh_back e1 p1) (e1.trans p2) p3 p4 fun i y hy => mon _ _ _ _ _ but_ex (p5 i y hy))⟩
theorem er_L {a : Addr} {ys : List V} (h : Ev tl σ H (.ref a)) (hx : SqL K H a ys) (hz : ys.length ≤ 40000) (hw : ∀ x, wipe ((wipe σ vs).set j (some x)) vs = wipe σ vs) (mon : Mon R)
    (he : ∀ (i : Nat) (x : V) D H1, H D = none → Ex H H1 → H1 D ≠ none → ys[i]? = some x → ∀ xs : List V, xs.length = i → (∀ j y, xs[j]? = some y → R j (xs.take j) y (but D H1)) → ∀ Q : VK, (∀ y H3, Ex H1 H3 → R i xs y (but D H3) → Q y H3) → te ((wipe σ vs).set j (some x)) H1 Q) :
    EvR (tLc (iList K tl) (gName j) tYes te vs) σ H ys.length R := fun H0 e Q q => h H0 e _ fun H1 e1 => ⟨a, rfl, ⟨ys, ex_l (e.trans e1) hx⟩, fun Dl hD =>
  lc_list (xs := ys) (Cr H1 R Dl) ⟨hD, Ex.new hD, [], upd_same, rfl, fun j y hy => by simp at hy⟩ (fun i H' _ p => ex_l ((e.trans e1).trans p.2.1) hx)
    (fun i x H' hi p => ⟨hw x, cr_turn mon p (by have := (List.getElem?_eq_some_iff.mp hi).1; omega) (fun h1 xs h2 h3 => he i x Dl H' (fresh_back (e.trans e1) hD) ((e.trans e1).trans p.2.1) h1 hi xs h2 h3)⟩)
    (fun H' ⟨p1, p2, xs, p3, p4, p5⟩ => q Dl xs H' (fresh_back e1 p1) (e1.trans p2) p3 p4 fun i y hy => mon _ _ _ _ _ but_ex (p5 i y hy))⟩
/-- over a list of pairs -/
theorem er_L2 {a : Addr} {ys : List V} (h : Ev tl σ H (.ref a)) (hx : SqL K H a ys) (hz : ys.length ≤ 40000) (hw : ∀ x y, wipe (((wipe σ vs).set j (some x)).set j2 (some y)) vs = wipe σ vs) (mon : Mon R)
    (he : ∀ (i : Nat) (x : V) D H1, H D = none → Ex H H1 → H1 D ≠ none → ys[i]? = some x → ∃ t u v, x = .ref t ∧ SqT K H1 t [u, v] ∧ ∀ xs : List V, xs.length = i → (∀ j y, xs[j]? = some y → R j (xs.take j) y (but D H1)) → ∀ Q : VK, (∀ y H3, Ex H1 H3 → R i xs y (but D H3) → Q y H3) → te (((wipe σ vs).set j (some u)).set j2 (some v)) H1 Q) :
    EvR (tLc (iList K tl) (gTup K 2 (gCons (gName j) (gCons (gName j2) gNil))) tYes te vs) σ H ys.length R := fun H0 e Q q => h H0 e _ fun H1 e1 => ⟨a, rfl, ⟨ys, ex_l (e.trans e1) hx⟩, fun Dl hD =>
  lc_list (xs := ys) (Cr H1 R Dl) ⟨hD, Ex.new hD, [], upd_same, rfl, fun j y hy => by simp at hy⟩ (fun i H' _ p => ex_l ((e.trans e1).trans p.2.1) hx)
    (fun i x H' hi p => by
      have h1 : H' Dl ≠ none := by
        obtain ⟨_, _, xs, p3, _⟩ := p
        rw [p3]
        exact fun e => by cases e
      obtain ⟨t, u, v, rfl, hT, k⟩ := he i x Dl H' (fresh_back (e.trans e1) hD) ((e.trans e1).trans p.2.1) h1 hi
      exact ⟨t, [u, v], rfl, hT, rfl, u, [v], rfl, v, [], rfl, rfl, hw u v, cr_turn mon p (by have := (List.getElem?_eq_some_iff.mp hi).1; omega) fun _ xs' h2 h3 => k xs' h2 h3⟩)
    (fun H' ⟨p1, p2, xs, p3, p4, p5⟩ => q Dl xs H' (fresh_back e1 p1) (e1.trans p2) p3 p4 fun i y hy => mon _ _ _ _ _ but_ex (p5 i y hy))⟩
end
/-! ### a list of known items, new or not -/
def EvF (te : TE) (σ : L2.St) (H : Hp) (xs : List V) : Prop := ∀ H1, Ex H H1 → ∀ Q : VK, (∀ p H2, Ex H1 H2 → H2 p = some (.lst xs) → Q (.ref p) H2) → te σ H1 Q
def fset (f : Nat → List Int) (s : Nat) (v : List Int) : Nat → List Int := fun x => if x = s then v else f x
def Z8 : List Int := [0, 0, 0, 0, 0, 0, 0, 0]
/-- a dict from sectors to lists of words -/
def Dz (H : Hp) (d : Addr) (n : Nat) (f : Nat → List Int) : Prop := ∃ kvs : List (Key × V), H d = some (.dK kvs) ∧ kvs.length ≤ n ∧ ∀ s : Nat, (valV kvs (.inl (s : Int)) = none ∧ f s = Z8) ∨ ∃ l, valV kvs (.inl (s : Int)) = some (.ref l) ∧ H l = some (.lst ((f s).map V.int))
theorem cut_lo (xs : List V) (n : Nat) : cutV xs none (some (n : Int)) = xs.take n := by
  unfold cutV
  rw [HT.sIx_none, HT.sIx_nat, List.drop_zero, Nat.sub_zero, List.take_eq_take_iff]
  omega
theorem cut_hi (xs : List V) (n : Nat) : cutV xs (some (n : Int)) none = xs.drop n := by
  unfold cutV
  rw [HT.sIx_none, HT.sIx_nat, List.take_of_length_le (by rw [List.length_drop]; omega)]
  by_cases h : n ≤ xs.length
  · rw [Nat.min_eq_left h]
  · rw [Nat.min_eq_right (by omega), List.drop_eq_nil_of_le (Nat.le_refl _), List.drop_eq_nil_of_le (by omega)]
section
variable {K : PySem.W.Frag} {σ : L2.St} {H H' : Hp} {ta tb te td tk tx : TE} {v : V} {xs ys : List V} {d : Addr} {n s : Nat} {f : Nat → List Int} {D : Ends} {tz : TS}
theorem el_f (h : EvL te σ H xs) : EvF te σ H xs := fun H1 e Q q => h H1 e Q fun p H2 _ e2 h2 => q p H2 e2 h2
theorem Dz.ex (D : Dz H d n f) (e : Ex H H') : Dz H' d n f := by
  obtain ⟨kvs, h, hl, hs⟩ := D
  exact ⟨kvs, e _ _ h, hl, fun s => (hs s).imp id fun ⟨l, a, b⟩ => ⟨l, a, e _ _ b⟩⟩
theorem Dz.le (D : Dz H d n f) {m : Nat} (h : n ≤ m) : Dz H d m f := by
  obtain ⟨kvs, h1, hl, hs⟩ := D
  exact ⟨kvs, h1, Nat.le_trans hl h, hs⟩
theorem ef_get (hd : Ev td σ H (.ref d)) (hD : Dz H d n f) (hk : Ev tk σ H (.int (s : Int))) (hx : EvL tx σ H (Z8.map V.int)) : EvF (tDGet2 td tk tx) σ H ((f s).map V.int) := fun H1 e Q q => by
  obtain ⟨kvs, h, _, hs⟩ := hD
  refine hd H1 e _ fun H2 e2 => ⟨d, rfl, .inl ⟨kvs, .inl (e2 _ _ (e _ _ h))⟩, hk H2 (e.trans e2) _ fun H3 e3 => hx H3 ((e.trans e2).trans e3) _ fun p H4 hp e4 h4 => ?_⟩
  have e14 := (e2.trans e3).trans e4
  rcases hs s with ⟨hn, hf⟩ | ⟨l, hv, hl⟩
  · refine ⟨none, ?_, ?_⟩
    · rw [← hn]
      exact DGet.k (k := Sum.inl (s : Int)) (e14 _ _ (e _ _ h))
    · rw [hf] at q
      exact q p H4 e14 h4
  · refine ⟨some (.ref l), ?_, q l H4 e14 (e14 _ _ (e _ _ hl))⟩
    rw [← hv]
    exact DGet.k (k := Sum.inl (s : Int)) (e14 _ _ (e _ _ h))
theorem q_asgF {i : Nat} (h : EvF te σ H xs) (k : ∀ p H1, Ex H H1 → H1 p = some (.lst xs) → tz D (σ.set i (some (.ref p))) H1) : tSeq (tAsg te (gName i)) tz D σ H := h H (Ex.refl H) _ fun p H1 e h1 => k p H1 e h1
/-- list(an evaluated list) -/
theorem el_listF (h : EvF te σ H xs) : EvL (tCB (rListS K) (tCons te tNil)) σ H xs := fun H1 e Q q =>
  h H1 e _ fun p H2 e2 h2 => ⟨p, xs, rfl, Or.inl (sq_of h2), fun l hl => q l _ (fresh_back e2 hl) (e2.trans (Ex.new hl)) upd_same⟩
theorem q_dcopy {i : Nat} (hd : Ev td σ H (.ref d)) (hD : Dz H d n f) (k : ∀ p H1, H p = none → Ex H H1 → Dz H1 p n f → tz D (σ.set i (some (.ref p))) H1) :
    tSeq (tAsg (tCB (fun xs H Q => ∃ (a : Addr) (kvs : List (Key × V)), xs = [.ref a] ∧ Rd H a (.dK kvs) ∧ ∀ p, H p = none → Q (.ref p) (upd H p (.dK kvs))) (tCons td tNil)) (gName i)) tz D σ H := by
  obtain ⟨kvs, h, hl, hs⟩ := hD
  refine hd H (Ex.refl H) _ fun H1 e1 => ⟨d, kvs, rfl, .inl (e1 _ _ h), fun p hp => k p _ (fresh_back e1 hp) (e1.trans (Ex.new hp)) ⟨kvs, upd_same, hl, fun s => (hs s).imp id fun ⟨l, a, b⟩ => ⟨l, a, (e1.trans (Ex.new hp)) _ _ b⟩⟩⟩
theorem s_dputL {zs : List Int} (hv : EvL te σ H (zs.map V.int)) (hd : Ev td σ H (.ref d)) (hk : Ev tk σ H (.int (s : Int))) (hD : Dz H d n f) (hn : n < 100000) (k : ∀ H1 o, Ex H H1 → Dz (upd H1 d o) d (n + 1) (fset f s zs) → D.nx σ (upd H1 d o)) : sDPut td tk te D σ H := by
  obtain ⟨kvs, h, hl, hs⟩ := hD
  refine hv H (Ex.refl H) _ fun l H1 hl1 e1 h1 => hd H1 e1 _ fun H2 e2 => hk H2 (e1.trans e2) _ fun H3 e3 => ?_
  have e13 := (e1.trans e2).trans e3
  have h3 := e13 _ _ h
  have l3 := e3 _ _ (e2 _ _ h1)
  have hld : l ≠ d := ne_of l3 h3 (by intro z; cases z)
  refine ⟨d, _, rfl, DPut.k (k := Sum.inl (s : Int)) h3 (sz_lt (by omega)), k H3 _ e13 ⟨_, upd_same, Nat.le_trans (length_putK _ _ _) (by omega), fun j => ?_⟩⟩
  rw [valV_put]
  by_cases hj : j = s
  · subst hj
    rw [if_pos rfl]
    refine .inr ⟨l, rfl, ?_⟩
    rw [upd_ne hld, l3]
    unfold fset
    rw [if_pos rfl]
  · rw [if_neg (fun z => hj (by cases z; rfl))]
    have ef : fset f s zs j = f j := if_neg hj
    rw [ef]
    refine (hs j).imp id fun ⟨m, a, b⟩ => ⟨m, a, ?_⟩
    have b3 := e13 _ _ b
    rw [upd_ne (ne_of b3 h3 (by intro z; cases z))]
    exact b3
theorem el_catL (ha : EvL ta σ H xs) (hb : EvL tb σ H ys) (hz : xs.length + ys.length ≤ 100000) : EvL (tOp rCat ta tb) σ H (xs ++ ys) := fun H1 e Q q =>
  ha H1 e _ fun a H2 ha2 e2 h2 => hb H2 (e.trans e2) _ fun b H3 hb3 e3 h3 => ⟨a, b, xs, ys, rfl, rfl, e3 _ _ h2, h3, sz_of hz, fun p hp => q p _ (fresh_back (e2.trans e3) hp) ((e2.trans e3).trans (Ex.new hp)) upd_same⟩
theorem el_cat {l : Addr} (ha : Ev ta σ H (.ref l)) (hl : H l = some (.lst xs)) (hb : EvL tb σ H ys) (hz : xs.length + ys.length ≤ 100000) : EvL (tOp rCat ta tb) σ H (xs ++ ys) := fun H1 e Q q =>
  ha H1 e _ fun H2 e2 => hb H2 (e.trans e2) _ fun b H3 hb3 e3 h3 => ⟨l, b, xs, ys, rfl, rfl, e3 _ _ (e2 _ _ (e _ _ hl)), h3, sz_of hz, fun p hp => q p _ (fresh_back (e2.trans e3) hp) ((e2.trans e3).trans (Ex.new hp)) upd_same⟩
theorem el_rep1 {z : Int} (ha : EvL ta σ H [v]) (hb : Ev tb σ H (.int z)) (h0 : 0 ≤ z) (h1 : z ≤ 100000) : EvL (tOp rRep ta tb) σ H (List.replicate z.toNat v) := fun H1 e Q q =>
  ha H1 e _ fun a H2 ha2 e2 h2 => hb H2 (e.trans e2) _ fun H3 e3 => ⟨a, z, [v], rfl, rfl, e3 _ _ h2, by omega, by omega, sz_of (by simp; omega), fun p hp => by
    have := q p (upd H3 p (.lst (List.replicate z.toNat [v]).flatten)) (fresh_back (e2.trans e3) hp) ((e2.trans e3).trans (Ex.new hp))
    rw [show (List.replicate z.toNat [v]).flatten = List.replicate z.toNat v by
      induction z.toNat with
      | zero => rfl
      | succ k ih => rw [List.replicate_succ, List.flatten_cons, ih]; rfl] at this ⊢
    exact this upd_same⟩
theorem ev_min2 {i j : Int} (ha : Ev ta σ H (.int i)) (hb : Ev tb σ H (.int j)) : Ev (tCB (fun xs H Q => ∃ i j, xs = [.int i, .int j] ∧ Q (.int (if j < i then j else i)) H) (tCons ta (tCons tb tNil))) σ H (.int (if j < i then j else i)) := ev_cb (ea_cons ha (ea_cons hb ea_nil)) fun H1 e Q q => ⟨i, j, rfl, q H1 (Ex.refl H1)⟩
theorem er_asg {i : Nat} {R : Rel} (h : EvR te σ H n R) (k : ∀ L xs H1, H L = none → Ex H H1 → H1 L = some (.lst xs) → xs.length = n → (∀ i y, xs[i]? = some y → R i (xs.take i) y H1) → tz D (σ.set i (some (.ref L))) H1) : tSeq (tAsg te (gName i)) tz D σ H := h H (Ex.refl H) _ k
theorem er_ret {R : Rel} (h : EvR te σ H n R) (k : ∀ L xs H1, H L = none → Ex H H1 → H1 L = some (.lst xs) → xs.length = n → (∀ i y, xs[i]? = some y → R i (xs.take i) y H1) → D.rt (.ref L) H1) : tRet te D σ H := h H (Ex.refl H) _ k
end
/-! ### more statements -/
section
variable {K : PySem.W.Frag} {σ : L2.St} {H : Hp} {ta tb te : TE} {t : TA} {xs ys : List V} {l C p dx : Addr} {fs : List (Str × V)} {m : Str} {n : Nat} {D : Ends} {tz : TS}
theorem s_setLL {j : Nat} (hl : H l = some (.lst xs)) (h : EvL te σ H ys) (ho : Ev ta σ H (.ref l)) (hi : Ev tb σ H (.int (j : Int))) (hj : j < xs.length) (k : ∀ q H1, H q = none → Ex H H1 → H1 q = some (.lst ys) → D.nx σ (upd H1 l (.lst (xs.set j (.ref q))))) :
    tAsg te (gSub ta tb rSetL) D σ H := h H (Ex.refl H) _ fun q H1 hq e1 h1 => ho H1 e1 _ fun H2 e2 => hi H2 (e1.trans e2) _ fun H3 e3 => ⟨l, xs, (j : Int), j, rfl, rfl, ((e1.trans e2).trans e3) l _ hl, ixN_nat hj, k q H3 hq ((e1.trans e2).trans e3) (e3 _ _ (e2 _ _ h1))⟩
theorem q_fldR {R : Rel} (hv : EvR te σ H n R) (ha : Ev ta σ H (.ref p)) (hi : H p = some (.ins C dx fs)) (c : Cls K C) (nA : NoAttr K C m) (hz : fs.length < 1000) (k : ∀ L xs H1 H2, H L = none → Ex H H1 → Ex H1 H2 → H2 L = some (.lst xs) → xs.length = n → (∀ i y, xs[i]? = some y → R i (xs.take i) y H1) → tz D σ (upd H2 p (.ins C dx (putF m (.ref L) fs)))) : tSeq (sFld K ta te m) tz D σ H :=
  hv H (Ex.refl _) _ fun L xs H1 hL e1 h1 hn hr => ha H1 e1 _ fun H2 e2 => ⟨p, C, dx, fs, rfl, e2 _ _ (e1 _ _ hi), c, nA, hz, k L xs H1 H2 hL e1 e2 (e2 _ _ h1) hn hr⟩
theorem q_forZ {a b : Addr} {g : TG} {tu : TS} (h : EvA t σ H [.ref a, .ref b]) (hx : SqL K H a xs) (hy : SqL K H b ys) (Pv : Nat → L2.St → Hp → Prop) (h0 : ∀ H1, Ex H H1 → Pv 0 σ H1) (hl : ∀ i σ' H', Pv i σ' H' → SqL K H' a xs ∧ SqL K H' b ys)
    (hs : ∀ i x y T σ' H', xs[i]? = some x → ys[i]? = some y → Pv i σ' H' → H' T = none → g (.ref T) σ' (upd H' T (.tup [x, y])) fun σ2 H2 => tu { D with nx := Pv (i + 1), ct := Pv (i + 1), bk := tz D } σ2 H2) (hd : ∀ σ' H', Pv (min xs.length ys.length) σ' H' → tz D σ' H') : tSeq (tFor (iZip K t) g tu) tz D σ H :=
  h H (Ex.refl H) _ fun H1 e => ⟨a, b, xs, ys, rfl, ex_l e hx, ex_l e hy, for_it (D := { D with nx := tz D }) (walk_zip rfl) Pv (h0 H1 e) (fun i σ' H' _ p => hl i σ' H' p) (fun i v σ' H' H2 hi p y => by
    obtain ⟨T, x, z, rfl, hT, rfl, h1, h2⟩ := y
    exact hs i x z T σ' H' h1 h2 p hT) hd⟩
end
theorem refs_of : ∀ {xs : List V}, (∀ y ∈ xs, ∃ a, y = V.ref a) → ∃ ks : List Addr, xs = ks.map V.ref
  | [], _ => ⟨[], rfl⟩
  | x :: r, h => by
    obtain ⟨a, rfl⟩ := h x List.mem_cons_self
    obtain ⟨ks, e⟩ := refs_of fun y hy => h y (List.mem_cons_of_mem _ hy)
    exact ⟨a :: ks, by rw [e]; rfl⟩
/-- a method that is passed a new list -/
theorem mR_run {sp : Sp} {σ : L2.St} {H : Hp} {ta te : TE} {C p dx : Addr} {fs : List (Str × V)} {m : Str} {xs : List V} {D : Ends} {E : XK} (ha : Ev ta σ H (.ref p)) (hi : H p = some (.ins C dx fs)) (hl : fs.lookup m = none) (ht : EvL te σ H xs) (k : ∀ c H1, H c = none → Ex H H1 → H1 c = some (.lst xs) → sp [.ref p, .ref c] H1 (fun _ H2 => D.nx σ H2) E) : tDrop (tMeth C m sp [] E ta (tCons te tNil)) D σ H :=
  ha H (Ex.refl _) _ fun H2 e2 => ⟨p, dx, fs, rfl, e2 _ _ hi, hl, ht H2 e2 _ fun c H3 hc e3 h3 => k c H3 (fresh_back e2 hc) (e2.trans e3) h3⟩
section
variable {K : PySem.W.Frag} {σ : L2.St} {H : Hp} {ta tb te t1 : TE} {t : TA} {v : V} {xs ys vs : List V} {C p dx a : Addr} {fs : List (Str × V)} {m : Str} {sp : Sp} {D : Ends} {tz : TS}
theorem ev_int1 {i : Int} (h : Ev te σ H (.int i)) : Ev (tCB (fun xs H Q => (∃ i, xs = [V.int i] ∧ Q (V.int i) H) ∨ ∃ k : Bool, xs = [V.bl k] ∧ Q (V.int (if k then 1 else 0)) H) (tCons te tNil)) σ H (.int i) := ev_cb (ea_cons h ea_nil) fun H1 _ Q q => .inl ⟨i, rfl, q _ (Ex.refl _)⟩
theorem ef_var (h : Ev te σ H (.ref a)) (ha : H a = some (.lst xs)) : EvF te σ H xs := fun H1 e Q q => h H1 e _ fun H2 e2 => q a H2 e2 (e2 _ _ (e _ _ ha))
theorem ef_is (h : EvF te σ H xs) (e : xs = ys) : EvF te σ H ys := e ▸ h
theorem el_meth {E : XK} (ha : Ev ta σ H (.ref p)) (hi : H p = some (.ins C dx fs)) (hl : fs.lookup m = none) (ht : EvA t σ H vs) (hs : SpL sp (.ref p :: vs) H xs) : EvL (tMeth C m sp [] E ta t) σ H xs := fun H1 e Q q =>
  ha H1 e _ fun H2 e2 => ⟨p, dx, fs, rfl, e2 _ _ (e _ _ hi), hl, ht H2 (e.trans e2) _ fun H3 e3 => by
    rw [List.append_nil]
    exact hs H3 ((e.trans e2).trans e3) Q (fun l H4 hl e4 h4 => q l H4 (fresh_back (e2.trans e3) hl) ((e2.trans e3).trans e4) h4) E⟩
/-- in a try's body: o.m(e, a new list), o.m(a new list), o.m(e ..) -/
theorem s_mA2L {E : L2.St → XK} (ha : Ev ta σ H (.ref p)) (hi : H p = some (.ins C dx fs)) (hl : fs.lookup m = none) (h1 : Ev t1 σ H v) (ht : EvL te σ H xs) (k : ∀ c H1, H c = none → Ex H H1 → H1 c = some (.lst xs) → sp [.ref p, v, .ref c] H1 (fun _ H2 => D.nx σ H2) (E σ)) : tDrop (tMethA C m sp E ta (tCons t1 (tCons te tNil))) D σ H :=
  ha H (Ex.refl _) _ fun H2 e2 => ⟨p, dx, fs, rfl, e2 _ _ hi, hl, h1 H2 e2 _ fun H3 e3 => ht H3 (e2.trans e3) _ fun c H4 hc e4 h4 => k c H4 (fresh_back (e2.trans e3) hc) ((e2.trans e3).trans e4) h4⟩
theorem s_mA1L {E : L2.St → XK} (ha : Ev ta σ H (.ref p)) (hi : H p = some (.ins C dx fs)) (hl : fs.lookup m = none) (ht : EvL te σ H xs) (k : ∀ c H1, H c = none → Ex H H1 → H1 c = some (.lst xs) → sp [.ref p, .ref c] H1 (fun _ H2 => D.nx σ H2) (E σ)) : tDrop (tMethA C m sp E ta (tCons te tNil)) D σ H :=
  ha H (Ex.refl _) _ fun H2 e2 => ⟨p, dx, fs, rfl, e2 _ _ hi, hl, ht H2 e2 _ fun c H3 hc e3 h3 => k c H3 (fresh_back e2 hc) (e2.trans e3) h3⟩
theorem s_mAV {E : L2.St → XK} (ha : Ev ta σ H (.ref p)) (hi : H p = some (.ins C dx fs)) (hl : fs.lookup m = none) (ht : EvA t σ H vs) (k : ∀ H1, Ex H H1 → sp (.ref p :: vs) H1 (fun _ H2 => D.nx σ H2) (E σ)) : tDrop (tMethA C m sp E ta t) D σ H := mA_run (Q := fun _ H2 => D.nx σ H2) ha hi hl ht k
end
/-! ### what is frozen: all that G has; what is new joins it, but for X -/
open Classical in
noncomputable def grow (G H H1 : Hp) (X : Addr → Prop) : Hp := fun a => if G a ≠ none then G a else if H a = none ∧ ¬ X a then H1 a else none
section
variable {G H H1 : Hp} {X : Addr → Prop} {a : Addr} {o : HO}
theorem grow_ex : Ex G (grow G H H1 X) := fun a o h => by
  unfold grow
  rw [if_pos (by rw [h]; exact fun e => by cases e)]
  exact h
theorem grow_sub (e : Ex G H1) : Ex (grow G H H1 X) H1 := fun a o h => by
  unfold grow at h
  split at h
  · exact e a o h
  · split at h
    · exact h
    · cases h
theorem grow_mono {H2 : Hp} (e : Ex H1 H2) : Ex (grow G H H1 X) (grow G H H2 X) := fun a o h => by
  unfold grow at h ⊢
  split at h
  · rename_i c
    rw [if_pos c]
    exact h
  · rename_i c
    rw [if_neg c]
    split at h
    · rename_i c2
      rw [if_pos c2]
      exact e _ _ h
    · cases h
theorem grow_no (h : H a ≠ none) (g : G a = none) : grow G H H1 X a = none := by
  unfold grow
  rw [if_neg (by rw [g]; exact fun e => e rfl), if_neg fun e => h e.1]
theorem grow_X (x : X a) (g : G a = none) : grow G H H1 X a = none := by
  unfold grow
  rw [if_neg (by rw [g]; exact fun e => e rfl), if_neg fun e => e.2 x]
theorem grow_new (g : G a = none) (h : H a = none) (x : ¬ X a) (h1 : H1 a = some o) : grow G H H1 X a = some o := by
  unfold grow
  rw [if_neg (by rw [g]; exact fun e => e rfl), if_pos ⟨h, x⟩]
  exact h1
end
theorem ef_ref {te : TE} {σ : L2.St} {H : Hp} {a : Addr} {xs : List V} (h : Ev te σ H (.ref a)) (ha : H a = some (.lst xs)) : EvF te σ H xs := ef_var h ha
theorem ev_lenT {K : PySem.W.Frag} {ta : TE} {σ : L2.St} {H : Hp} {p : Addr} {xs : List V} (ha : Ev ta σ H (.ref p)) (h : SqT K H p xs) : Ev (tCB (rLenS K) (tCons ta tNil)) σ H (.int (xs.length : Int)) := ev_cb (ea_cons ha ea_nil) fun H1 e Q q => ⟨p, xs, rfl, .inr (ex_t e h), q H1 (Ex.refl H1)⟩
theorem ints_inj : ∀ {a b : List Int}, a.map V.int = b.map V.int → a = b
  | [], [], _ => rfl
  | [], _ :: _, h => by simp at h
  | _ :: _, [], h => by simp at h
  | a :: r, b :: s, h => by
    rw [List.map_cons, List.map_cons] at h
    injection h with h1 h2
    rw [V.int.inj h1, ints_inj h2]
/-! ### a dict that is being made: its lists are frozen or new -/
def DzG (G H0 H' : Hp) (d : Addr) (n : Nat) (f : Nat → List Int) : Prop := ∃ kvs : List (Key × V), H' d = some (.dK kvs) ∧ kvs.length ≤ n ∧ ∀ s : Nat, (valV kvs (.inl (s : Int)) = none ∧ f s = Z8) ∨ ∃ l, valV kvs (.inl (s : Int)) = some (.ref l) ∧ (G l = some (.lst ((f s).map V.int)) ∨ (H0 l = none ∧ H' l = some (.lst ((f s).map V.int))))
section
variable {G H0 H H' : Hp} {σ : L2.St} {te td tk : TE} {d : Addr} {n s : Nat} {f : Nat → List Int} {D : Ends} {tz : TS}
theorem DzG.ex (h : DzG G H0 H d n f) (e : Ex H H') : DzG G H0 H' d n f := by
  obtain ⟨kvs, h, hl, hs⟩ := h
  exact ⟨kvs, e _ _ h, hl, fun s => (hs s).imp id fun ⟨l, a, b⟩ => ⟨l, a, b.imp id fun c => ⟨c.1, e _ _ c.2⟩⟩⟩
theorem DzG.dz (h : DzG G H0 H d n f) (e : Ex G H) : Dz H d n f := by
  obtain ⟨kvs, h, hl, hs⟩ := h
  exact ⟨kvs, h, hl, fun s => (hs s).imp id fun ⟨l, a, b⟩ => ⟨l, a, b.elim (fun c => e _ _ c) fun c => c.2⟩⟩
theorem DzG.grown (h : DzG G H0 H d n f) (hd : H0 d = none) (g : Ex G H0) : Dz (grow G H0 H fun _ => False) d n f := by
  obtain ⟨kvs, h, hl, hs⟩ := h
  exact ⟨kvs, grow_new (fresh_back g hd) hd id h, hl, fun s => (hs s).imp id fun ⟨l, a, b⟩ => ⟨l, a, b.elim (fun c => grow_ex _ _ c) fun c => grow_new (fresh_back g c.1) c.1 id c.2⟩⟩
theorem q_dcopyG {i : Nat} (g : Ex G H) (hd : Ev td σ H (.ref d)) (hD : Dz G d n f) (k : ∀ p H1, H p = none → Ex H H1 → DzG G H H1 p n f → tz D (σ.set i (some (.ref p))) H1) :
    tSeq (tAsg (tCB (fun xs H Q => ∃ (a : Addr) (kvs : List (Key × V)), xs = [.ref a] ∧ Rd H a (.dK kvs) ∧ ∀ p, H p = none → Q (.ref p) (upd H p (.dK kvs))) (tCons td tNil)) (gName i)) tz D σ H := by
  obtain ⟨kvs, h, hl, hs⟩ := hD
  refine hd H (Ex.refl H) _ fun H1 e1 => ⟨d, kvs, rfl, .inl (e1 _ _ (g _ _ h)), fun p hp => k p _ (fresh_back e1 hp) (e1.trans (Ex.new hp)) ⟨kvs, upd_same, hl, fun s => (hs s).imp id fun ⟨l, a, b⟩ => ⟨l, a, .inl b⟩⟩⟩
theorem s_dputG {zs : List Int} (g : Ex H0 H) (hv : EvL te σ H (zs.map V.int)) (hd : Ev td σ H (.ref d)) (hk : Ev tk σ H (.int (s : Int))) (hD : DzG G H0 H d n f) (hn : n < 100000) (k : ∀ H1 o, Ex H H1 → DzG G H0 (upd H1 d o) d (n + 1) (fset f s zs) → D.nx σ (upd H1 d o)) : sDPut td tk te D σ H := by
  obtain ⟨kvs, h, hl, hs⟩ := hD
  refine hv H (Ex.refl H) _ fun l H1 hl1 e1 h1 => hd H1 e1 _ fun H2 e2 => hk H2 (e1.trans e2) _ fun H3 e3 => ?_
  have e13 := (e1.trans e2).trans e3
  have h3 := e13 _ _ h
  have l3 := e3 _ _ (e2 _ _ h1)
  have hld : l ≠ d := ne_of l3 h3 (by intro z; cases z)
  refine ⟨d, _, rfl, DPut.k (k := Sum.inl (s : Int)) h3 (sz_lt (by omega)), k H3 _ e13 ⟨_, upd_same, Nat.le_trans (length_putK _ _ _) (by omega), fun j => ?_⟩⟩
  rw [valV_put]
  by_cases hj : j = s
  · subst hj
    rw [if_pos rfl]
    refine .inr ⟨l, rfl, .inr ⟨fresh_back g hl1, ?_⟩⟩
    rw [upd_ne hld, l3]
    unfold fset
    rw [if_pos rfl]
  · rw [if_neg (fun z => hj (by cases z; rfl))]
    have ef : fset f s zs j = f j := if_neg hj
    rw [ef]
    refine (hs j).imp id fun ⟨m, a, b⟩ => ⟨m, a, b.imp id fun c => ⟨c.1, ?_⟩⟩
    have b3 := e13 _ _ c.2
    rw [upd_ne (ne_of b3 h3 (by intro z; cases z))]
    exact b3
end
section
variable {K : PySem.W.Frag} {σ : L2.St} {H : Hp} {t1 t2 te : TE} {v1 v2 : V} {xs : List V} {l : Addr} {sp : Sp} {E : XK} {D : Ends} {tz : TS}
/-- x = f(e, e', a new list) -/
theorem q_call3L {i : Nat} (h1 : Ev t1 σ H v1) (h2 : Ev t2 σ H v2) (h3 : EvL te σ H xs) (k : ∀ c H1, H c = none → Ex H H1 → H1 c = some (.lst xs) → sp [v1, v2, .ref c] H1 (fun v H2 => tz D (σ.set i (some v)) H2) E) : tSeq (tAsg (tCall sp [] E (tCons t1 (tCons t2 (tCons te tNil)))) (gName i)) tz D σ H :=
  h1 H (Ex.refl _) _ fun H1 e1 => h2 H1 e1 _ fun H2 e2 => h3 H2 (e1.trans e2) _ fun c H3 hc e3 h3' => k c H3 (fresh_back (e1.trans e2) hc) ((e1.trans e2).trans e3) h3'
/-- x = x + [(e, e')] -/
theorem s_snocT {i : Nat} (ha : Ev te σ H (.ref l)) (hl : H l = some (.lst xs)) (h1 : Ev t1 σ H v1) (h2 : Ev t2 σ H v2) (hz : xs.length < 10000) (k : ∀ t L H1, H t = none → H L = none → Ex H H1 → H1 t = some (.tup [v1, v2]) → H1 L = some (.lst (xs ++ [.ref t])) → D.nx (σ.set i (some (.ref L))) H1) :
    tAsg (tOp rCat te (tLst (tCons (tTup (tCons t1 (tCons t2 tNil))) tNil))) (gName i) D σ H :=
  ha H (Ex.refl _) _ fun H1 e1 => h1 H1 e1 _ fun H2 e2 => h2 H2 (e1.trans e2) _ fun H3 e3 => ⟨by show 2 ≤ sizeLine; decide, fun t ht => ⟨by show 1 ≤ sizeLine; decide, fun b hb => by
    have e4 := Ex.new (o := .tup [v1, v2]) ht
    have e5 := Ex.new (o := .lst [.ref t]) hb
    have e13 := (e1.trans e2).trans e3
    refine ⟨l, b, xs, [.ref t], rfl, rfl, e5 _ _ (e4 _ _ (e13 _ _ hl)), upd_same, sz_of (by simp; omega), fun L hL => ?_⟩
    have e6 := Ex.new (o := .lst (xs ++ [.ref t])) hL
    exact k t L _ (fresh_back e13 ht) (fresh_back ((e13.trans e4).trans e5) hL) (((e13.trans e4).trans e5).trans e6) (e6 _ _ (e5 _ _ upd_same)) upd_same⟩⟩
end
end LP

set_option Elab.async false
set_option linter.all false
set_option maxRecDepth 100000
set_option maxHeartbeats 4000000
namespace LV
open PySem PySem.Spec PyProof.Rows L2 Evl LT LG LH
section
variable {K : PySem.W.Frag} {σ : L2.St} {H : Hp} {tl te : TE} {ta : TA} {P a b : Addr} {xs ys : List V} {okc : Nat → (Nat → V) → V → Prop} {vals : Nat → V} {r : V} {j j2 : Nat} {vs : List Nat}
/-- a generator expression over a list that stands, over a tuple, a range, a text, two lists: elements that leave what is known -/
theorem ev_gxL (h : Ev tl σ H (.ref a)) (hx : SqL K H a xs) (hT : Tab H P) (ok : okc xs.length vals r) (hw : ∀ x, wipe ((wipe σ vs).set j (some x)) vs = wipe σ vs) (he : ∀ (i : Nat) (x : V) H1, Ex H H1 → xs[i]? = some x → Ev te ((wipe σ vs).set j (some x)) H1 (vals i)) : Ev (tGX P okc (iList K tl) (gName j) te vs) σ H r := fun H1 e Q q =>
  h H1 e _ fun H2 e2 => ⟨a, rfl, ⟨xs, ex_l (e.trans e2) hx⟩, hT.mono (e.trans e2), xs.length, vals, r, fun _ H' => Ex H2 H', ok, Ex.refl _, fun i H' hi w => ⟨⟨xs, xs[i], ex_l ((e.trans e2).trans w) hx, List.getElem?_eq_getElem hi⟩, fun x H3 hy => by
    obtain ⟨rfl, hy⟩ := hy
    exact ⟨hw x, he i x _ ((e.trans e2).trans w) (hy xs (ex_l ((e.trans e2).trans w) hx)) _ (Ex.refl _) _ fun H4 e4 => ⟨rfl, w.trans e4⟩⟩⟩, fun H' w => ⟨xs, ex_l ((e.trans e2).trans w) hx, Nat.le_refl _⟩, fun i H' _ w => q H' (e2.trans w)⟩
theorem ev_gxT (h : Ev tl σ H (.ref a)) (hx : SqT K H a xs) (hT : Tab H P) (ok : okc xs.length vals r) (hw : ∀ x, wipe ((wipe σ vs).set j (some x)) vs = wipe σ vs) (he : ∀ (i : Nat) (x : V) H1, Ex H H1 → xs[i]? = some x → Ev te ((wipe σ vs).set j (some x)) H1 (vals i)) : Ev (tGX P okc (iTup K tl) (gName j) te vs) σ H r := fun H1 e Q q =>
  h H1 e _ fun H2 e2 => ⟨a, rfl, ⟨xs, ex_t (e.trans e2) hx⟩, hT.mono (e.trans e2), xs.length, vals, r, fun _ H' => Ex H2 H', ok, Ex.refl _, fun i H' hi w => ⟨⟨xs, xs[i], ex_t ((e.trans e2).trans w) hx, List.getElem?_eq_getElem hi⟩, fun x H3 hy => by
    obtain ⟨rfl, hy⟩ := hy
    exact ⟨hw x, he i x _ ((e.trans e2).trans w) (hy xs (ex_t ((e.trans e2).trans w) hx)) _ (Ex.refl _) _ fun H4 e4 => ⟨rfl, w.trans e4⟩⟩⟩, fun H' w => ⟨xs, ex_t ((e.trans e2).trans w) hx, Nat.le_refl _⟩, fun i H' _ w => q H' (e2.trans w)⟩
theorem ev_gxR {n : Int} (h : EvA ta σ H [.int n]) (hn : 0 ≤ n ∧ n ≤ 100000) (hT : Tab H P) (ok : okc n.toNat vals r) (hw : ∀ x, wipe ((wipe σ vs).set j (some x)) vs = wipe σ vs) (he : ∀ (i : Nat) H1, Ex H H1 → (i : Int) < n → Ev te ((wipe σ vs).set j (some (.int (i : Int)))) H1 (vals i)) : Ev (tGX P okc (iRng1 ta) (gName j) te vs) σ H r := fun H1 e Q q =>
  h H1 e _ fun H2 e2 => ⟨n, rfl, by omega, by omega, hT.mono (e.trans e2), n.toNat, vals, r, fun _ H' => Ex H2 H', ok, Ex.refl _, fun i H' hi w => ⟨hi, fun x H3 hy => by
    obtain ⟨rfl, rfl⟩ := hy
    rw [Int.zero_add]
    exact ⟨hw _, he i _ ((e.trans e2).trans w) (by omega) _ (Ex.refl _) _ fun H4 e4 => ⟨rfl, w.trans e4⟩⟩⟩, fun H' w => Nat.le_refl _, fun i H' _ w => q H' (e2.trans w)⟩
theorem ev_gxS {z : Str} (h : Ev tl σ H (.str z)) (hT : Tab H P) (ok : okc z.cps.size vals r) (hw : ∀ x, wipe ((wipe σ vs).set j (some x)) vs = wipe σ vs) (he : ∀ (i : Nat) (c : Nat) H1, Ex H H1 → z.cps[i]? = some c → Ev te ((wipe σ vs).set j (some (.str ⟨#[c]⟩))) H1 (vals i)) : Ev (tGX P okc (iStr tl) (gName j) te vs) σ H r := fun H1 e Q q =>
  h H1 e _ fun H2 e2 => ⟨z, rfl, hT.mono (e.trans e2), z.cps.size, vals, r, fun _ H' => Ex H2 H', ok, Ex.refl _, fun i H' hi w => ⟨hi, fun x H3 hy => by
    obtain ⟨rfl, c, hc, rfl⟩ := hy
    exact ⟨hw _, he i c _ ((e.trans e2).trans w) hc _ (Ex.refl _) _ fun H4 e4 => ⟨rfl, w.trans e4⟩⟩⟩, fun H' w => Nat.le_refl _, fun i H' _ w => q H' (e2.trans w)⟩
/-- over zip of two lists -/
theorem ev_gxZ {n : Nat} (h : EvA ta σ H [.ref a, .ref b]) (hx : SqL K H a xs) (hy : SqL K H b ys) (hn : n = min xs.length ys.length) (hT : Tab H P) (ok : okc n vals r) (hw : ∀ x y, wipe (((wipe σ vs).set j (some x)).set j2 (some y)) vs = wipe σ vs)
    (he : ∀ (i : Nat) (x y : V) H1, Ex H H1 → xs[i]? = some x → ys[i]? = some y → Ev te (((wipe σ vs).set j (some x)).set j2 (some y)) H1 (vals i)) : Ev (tGX P okc (iZip K ta) (gTup K 2 (gCons (gName j) (gCons (gName j2) gNil))) te vs) σ H r := fun H1 e Q q =>
  h H1 e _ fun H2 e2 => ⟨a, b, xs, ys, rfl, ex_l (e.trans e2) hx, ex_l (e.trans e2) hy, hT.mono (e.trans e2), n, vals, r, fun _ H' => Ex H2 H', ok, Ex.refl _, fun i H' hi w => ⟨⟨xs, ys, xs[i]'(by omega), ys[i]'(by omega), ex_l ((e.trans e2).trans w) hx, ex_l ((e.trans e2).trans w) hy, List.getElem?_eq_getElem _, List.getElem?_eq_getElem _⟩, fun x H3 hz => by
    obtain ⟨T, x1, y1, rfl, hT1, rfl, h1, h2⟩ := hz
    have e3 := ((e.trans e2).trans w).trans (Ex.new (o := .tup [x1, y1]) hT1)
    refine ⟨T, _, rfl, st_of upd_same, rfl, _, _, rfl, _, _, rfl, rfl, hw x1 y1, ?_⟩
    exact he i x1 y1 _ e3 (h1 xs (ex_l ((e.trans e2).trans w) hx)) (h2 ys (ex_l ((e.trans e2).trans w) hy)) _ (Ex.refl _) _ fun H4 e4 => ⟨rfl, (w.trans (Ex.new hT1)).trans e4⟩⟩, fun H' w => ⟨xs, ys, ex_l ((e.trans e2).trans w) hx, ex_l ((e.trans e2).trans w) hy, by omega⟩, fun i H' _ w => q H' (e2.trans w)⟩
theorem ok_all {n : Nat} (f : Nat → Bool) : okAll n (fun i => .bl (f i)) (.bl (allF n f)) := ⟨f, rfl, rfl⟩
theorem ok_any {n : Nat} (f : Nat → Bool) : okAny n (fun i => .bl (f i)) (.bl (anyF n f)) := ⟨f, rfl, rfl⟩
theorem ok_sum {n : Nat} (f : Nat → Int) (h : ∀ j, j < n → InLong (f j) ∧ InLong (preSum f (j + 1))) : okSum n (fun i => .int (f i)) (.int (preSum f n)) := ⟨f, rfl, rfl, h⟩
theorem ok_max {n : Nat} (f : Nat → Int) (h : 0 < n) : okMax n (fun i => .int (f i)) (.int (topI f (n - 1))) := ⟨f, rfl, rfl, h⟩
/-- sum(a new list of ints) -/
theorem ev_sumN {ns : List Int} (h : EvL te σ H (ns.map V.int)) : Ev (tCB (rSum K) (tCons te tNil)) σ H (.int ns.sum) := fun H1 e Q q =>
  h H1 e _ fun p H2 _ e2 h2 => ⟨p, ns, rfl, sq_of h2, q H2 e2⟩
end
end LV
namespace LV
open PySem PySem.Spec PyProof.Rows L2 Evl LT LG LH LP StX
section
variable {K : PySem.W.Frag} {σ : L2.St} {H H' : Hp} {tl te ta tb : TE} {t : TA} {p l : Addr} {xs ys : List V} {v : V} {D : Ends} {tz : TS}
theorem ea_starT (h : Ev te σ H (.ref p)) (hx : SqT K H p xs) (hr : EvA t σ H ys) : EvA (tStar K te t) σ H (xs ++ ys) := fun H1 e Q q =>
  h H1 e _ fun H2 e2 => ⟨p, xs, rfl, .inl (ex_t (e.trans e2) hx), hr H2 (e.trans e2) _ fun H3 e3 => q H3 (e2.trans e3)⟩
theorem ea_starN (h : EvL te σ H xs) (hr : EvA t σ H ys) : EvA (tStar K te t) σ H (xs ++ ys) := fun H1 e Q q =>
  h H1 e _ fun p H2 _ e2 h2 => ⟨p, xs, rfl, .inr (sq_of h2), hr H2 (e.trans e2) _ fun H3 e3 => q H3 (e2.trans e3)⟩
theorem cut_mid (xs : List V) {i j : Nat} (h : i ≤ j) (hj : j ≤ xs.length) : cutV xs (some (i : Int)) (some (j : Int)) = (xs.drop i).take (j - i) := by
  unfold cutV
  rw [HT.sIx_nat, HT.sIx_nat]; try rw [show min j xs.length = j from Nat.min_eq_left hj]
  rw [show min i xs.length = i from Nat.min_eq_left (Nat.le_trans h hj)]
/-- xs[i] of a new list -/
theorem ev_ixN {i : Int} (ha : EvL ta σ H xs) (hb : ∀ H1, Ex H H1 → Ev tb σ H1 (.int i)) (h : atI xs i = some v) : Ev (tOp (rIxL K) ta tb) σ H v := ev_opL1 ha hb fun p H1 h1 _ => rv_ixL (sq_of h1) h
/-- tuple(a list that stands or is new) is eu_tupL; of a tuple: the same -/
theorem ev_tupT (h : Ev te σ H (.ref p)) (hx : SqT K H p xs) : Ev (tCB (fun zs H Q => ∃ p ys, zs = [.ref p] ∧ ((SqL K H p ys ∧ ∀ l, H l = none → Q (.ref l) (upd H l (.tup ys))) ∨ (SqT K H p ys ∧ Q (.ref p) H))) (tCons te tNil)) σ H (.ref p) := fun H1 e Q q =>
  h H1 e _ fun H2 e2 => ⟨p, xs, rfl, .inr ⟨ex_t (e.trans e2) hx, q H2 e2⟩⟩
theorem ev_lenL (ha : Ev te σ H (.ref p)) (h : H p = some (.lst xs)) : Ev (tCB (rLenS K) (tCons te tNil)) σ H (.int (xs.length : Int)) := ev_len ha (sq_of h)
/-- a tuple made of a new tuple and .. -/
theorem q_appUL {ys : List V} (hl : H l = some (.lst xs)) (ha : Ev ta σ H (.ref l)) (h : EvU te σ H ys) (hz : xs.length < 100000) (k : ∀ p H1, H p = none → Ex H H1 → H1 p = some (.tup ys) → tz D σ (upd H1 l (.lst (xs ++ [.ref p])))) :
    tSeq (tDrop (tBM K "list" rAppend ta (tCons te tNil))) tz D σ H := q_appU hl ha h hz k
end
/-! ### heaps in which one object may change -/
def Bx (p : Addr) (H H' : Hp) : Prop := ∀ a o, a ≠ p → H a = some o → H' a = some o
theorem Bx.of {p : Addr} {H H' : Hp} (e : Ex H H') : Bx p H H' := fun a o _ h => e a o h
theorem Bx.trans {p : Addr} {H H1 H2 : Hp} (e : Bx p H H1) (f : Bx p H1 H2) : Bx p H H2 := fun a o n h => f a o n (e a o n h)
theorem Bx.up {p : Addr} {H H' : Hp} {o : HO} (e : Bx p H H') : Bx p H (upd H' p o) := fun a u n h => by
  rw [upd_ne n]
  exact e a u n h
theorem Bx.ex {p : Addr} {H0 H H' : Hp} (e : Ex H0 H) (f : Bx p H H') (n : H0 p = none) : Ex H0 H' := fun a o h => f a o (fun z => by rw [z, n] at h; cases h) (e a o h)
theorem Bx.back {p q : Addr} {H H' : Hp} (e : Bx p H H') (n : q ≠ p) (h : H' q = none) : H q = none := by
  cases h1 : H q with
  | none => rfl
  | some o =>
    rw [e q o n h1] at h
    cases h
end LV
namespace LV
open PySem PySem.Spec PyProof.Rows L2 Evl LT LG LH LP StX
section
variable {σ : L2.St} {H : Hp} {t1 t2 te : TE} {v1 v2 : V} {xs ys : List V} {sp : Sp} {E : XK} {D : Ends} {tz : TS}
/-- x = f(e, a new list) -/
theorem q_call2L {i : Nat} (h1 : Ev t1 σ H v1) (h2 : EvL te σ H xs) (k : ∀ c H1, H c = none → Ex H H1 → H1 c = some (.lst xs) → sp [v1, .ref c] H1 (fun v H2 => tz D (σ.set i (some v)) H2) E) : tSeq (tAsg (tCall sp [] E (tCons t1 (tCons te tNil))) (gName i)) tz D σ H :=
  h1 H (Ex.refl _) _ fun H1 e1 => h2 H1 e1 _ fun c H2 hc e2 h3 => k c H2 (fresh_back e1 hc) (e1.trans e2) h3
theorem ev_is' (h : EvU te σ H xs) (e : xs = ys) : EvU te σ H ys := by
  rw [← e]
  exact h
end
end LV
namespace LV
open PySem PySem.Spec PyProof.Rows L2 Evl LT LG LH LP StX
/-! ### a heap without some of its objects -/
def frz (S : List Addr) (H : Hp) : Hp := fun a => if a ∈ S then none else H a
theorem frz_ne {S : List Addr} {H : Hp} {a : Addr} (h : a ∉ S) : frz S H a = H a := if_neg h
theorem frz_upd {S : List Addr} {H : Hp} {a : Addr} {o : HO} (h : a ∈ S) : frz S (upd H a o) = frz S H := funext fun b => by
  unfold frz
  by_cases hb : b ∈ S
  · rw [if_pos hb, if_pos hb]
  · rw [if_neg hb, if_neg hb, upd_ne fun z => hb (by rw [z]; exact h)]
theorem frz_ex {S : List Addr} {H : Hp} : Ex (frz S H) H := fun a o h => by
  unfold frz at h
  by_cases hb : a ∈ S
  · rw [if_pos hb] at h
    cases h
  · rw [if_neg hb] at h
    exact h
theorem ex_frz {S : List Addr} {H H' : Hp} (e : Ex H H') : Ex (frz S H) (frz S H') := fun a o h => by
  unfold frz at h ⊢
  by_cases hb : a ∈ S
  · rw [if_pos hb] at h
    cases h
  · rw [if_neg hb] at h ⊢
    exact e _ _ h
theorem frz_some {S : List Addr} {H : Hp} {a : Addr} {o : HO} (h : frz S H a = some o) : a ∉ S ∧ H a = some o := by
  unfold frz at h
  by_cases hb : a ∈ S
  · rw [if_pos hb] at h
    cases h
  · rw [if_neg hb] at h
    exact ⟨hb, h⟩
theorem Bx.mut {p w : Addr} {H H' : Hp} {o : HO} (e : Bx p H H') (h : H w = none) : Bx p H (upd H' w o) := fun a u n ha => by
  rw [upd_ne fun z => by rw [z, h] at ha; cases ha]
  exact e a u n ha
theorem Bx.l {K : PySem.W.Frag} {p a : Addr} {H H' : Hp} {xs : List V} (e : Bx p H H') (n : a ≠ p) (h : SqL K H a xs) : SqL K H' a xs := by
  rcases h with (h | ⟨o, h⟩) | h
  · exact .inl (.inl (e _ _ n h))
  · exact .inl (.inr ⟨o, e _ _ n h⟩)
  · exact .inr h
end LV
namespace LV
open PySem PySem.Spec PyProof.Rows L2 Evl LT LG LH LP StX
/-- what a for over the list a asks -/
abbrev FB (K : PySem.W.Frag) (a : Addr) (g : TG) (tb : TS) (D : Ends) (σ : L2.St) (H : Hp) : Prop := ∃ W : Nat → Nat → L2.St → Hp → Prop, (∃ m, W 0 m σ H) ∧ ∀ i m σ H, W i m σ H →
  ((Itl K a).stop i H ∧ D.nx σ H) ∨ ((Itl K a).go i H ∧ ∃ N : L2.St → Hp → Prop, (∀ σ' H', N σ' H' → ∃ m', m' < m ∧ W (i + 1) m' σ' H') ∧ ∀ x H', (Itl K a).yld i H x H' → g x σ H' fun σ2 H2 => tb { D with nx := N, ct := N, bk := D.nx } σ2 H2)
/-- for .. in f(..): the call makes a list -/
theorem s_forCall {K : PySem.W.Frag} {σ : L2.St} {H : Hp} {g : TG} {tb : TS} {D : Ends} {sp : Sp} {E : XK} {tr : TA} {vs : List V} (h : EvA tr σ H vs) (k : ∀ H1, Ex H H1 → sp vs H1 (fun x H2 => ∃ a, x = V.ref a ∧ (∃ xs, SqL K H2 a xs) ∧ FB K a g tb D σ H2) E) : tFor (iList K (tCall sp [] E tr)) g tb D σ H :=
  h H (Ex.refl _) _ fun H1 e1 => by
    rw [List.append_nil]
    exact k H1 e1
theorem q_forCall {K : PySem.W.Frag} {σ : L2.St} {H : Hp} {g : TG} {tb tz : TS} {D : Ends} {sp : Sp} {E : XK} {tr : TA} {vs : List V} (h : EvA tr σ H vs) (k : ∀ H1, Ex H H1 → sp vs H1 (fun x H2 => ∃ a, x = V.ref a ∧ (∃ xs, SqL K H2 a xs) ∧ FB K a g tb { D with nx := tz D } σ H2) E) : tSeq (tFor (iList K (tCall sp [] E tr)) g tb) tz D σ H := s_forCall (D := { D with nx := tz D }) h k
section
variable {P : Program} {w : World} {K : PySem.W.Frag} {mg : Str → Option Value} {base : Heap}
/-- as FunC.ok, for a def that may raise -/
theorem _root_.LS.FunC.okX {x qual : Str} {st : Stmt} {f c : Addr} {fd : FuncData} {N ps : List Str} {k : Nat} {sp : Sp} (F : LS.FunC K x qual st f fd c) (S : FnScope N ps (defScope st)) (len : ∀ vs H Q E, sp vs H Q E → vs.length = ps.length)
    (hbody : ∀ (A : Around) (outer : List Env) (s : Shared) (H : Hp) (vs : List V) (Q : VK) (E : XK), Room k (A.deeper (envOfC qual (defScope st) s.heap.objs.size f (.ref c))) → sp vs H Q E →
      ∃ t, PSs (cxOf (L2.CX P w) P w K mg base N qual (defScope st) f (.ref c) A outer s H E) (defBody st) t ∧ t { nx := fun _ H' => Q .non H', rt := Q } (start N vs) H) : FnOk P w K mg base (L2.CX P w) (k + 1) f fd ps sp := by
  obtain ⟨oc, od, kV, doc, pm, an, ct, osl, rfl, lk, hcd⟩ := F.ex
  exact fn_of lk hcd S len fun A outer s H vs Q E hr hsp => hbody A outer s H vs Q E hr hsp
end
end LV

set_option Elab.async false
set_option linter.all false
set_option maxRecDepth 100000
set_option maxHeartbeats 4000000
namespace LZ
open PySem PySem.Spec PyProof.Rows L2 Evl LT LG LH LP StX
/-! ### zip of a tuple and a list -/
def ItM (K : PySem.W.Frag) (a b : Addr) : It where
  go := fun i H => ∃ (us vs : List V) (m n : V), SqT K H a us ∧ SqL K H b vs ∧ us[i]? = some m ∧ vs[i]? = some n
  yld := fun i H v G => ∃ T m n, v = .ref T ∧ H T = none ∧ G = upd H T (.tup [m, n]) ∧ (∀ us, SqT K H a us → us[i]? = some m) ∧ ∀ vs, SqL K H b vs → vs[i]? = some n
  stop := fun i H => ∃ us vs : List V, SqT K H a us ∧ SqL K H b vs ∧ i ≤ us.length ∧ i ≤ vs.length ∧ (i = us.length ∨ i = vs.length)
theorem sep_of {z TI TO i1 i2 a b : Addr} (D : ZipApart z TI TO i1 i2 a b) : ZipSep2 z TI TO i1 i2 [i1, a] [i2, b] where
  TIz := D.TIz
  TOz := D.TOz
  TITO := D.TITO
  TIi1 := D.TIi1
  mem1 := List.mem_cons_self
  zf1 := by simp [D.i1z.symm, D.l1z.symm]
  Tf1 := by simp [D.TOi1, D.l1TO.symm]
  TIi2 := D.TIi2
  mem2 := List.mem_cons_self
  zf2 := by simp [D.i2z.symm, D.l2z.symm]
  Tf2 := by simp [D.TOi2, D.l2TO.symm]
  sep1_2 := by simp [D.i12, D.l2i1.symm]
  sep2_1 := by simp [D.i12.symm, D.l1i2.symm]
def stM (z TI TO i1 i2 a b : Addr) (k : Nat) (g : Heap) : Prop := IsZip g z TI TO .none ∧ IsTupOf2 g TI (.ref i1) (.ref i2) ∧ (∃ m n, IsTupOf2 g TO m n) ∧ g.IsTupleIter i1 a k ∧ g.IsListIter i2 b k
theorem in5 {c z TI TO i1 i2 : Addr} (h : c ∈ [z, TI, TO, i1, i2]) : c = z ∨ c = TI ∨ c = TO ∨ c = i1 ∨ c = i2 := by
  simpa only [List.mem_cons, List.not_mem_nil, or_false] using h
theorem turn_zipM {P : Program} {w : World} {K : PySem.W.Frag} {elts : List Expr} {kk : Nat} {tpos : Pos} {a b z TI TO i1 i2 : Addr} (D : ZipApart z TI TO i1 i2 a b) : Turn P w K (.Tuple elts kk tpos) (ItM K a b) [z, TI, TO, i1, i2] z (stM z TI TO i1 i2 a b) where
  mem := List.mem_cons_self
  obj := by
    rintro k g ⟨A1, A2, ⟨m, n, A3⟩, ⟨u1, B1, -, C1⟩, ⟨u2, B2, -, C2⟩⟩ c hc
    rcases in5 hc with rfl | rfl | rfl | rfl | rfl
    · exact ⟨_, A1, fun v e => by cases e⟩
    · exact ⟨_, A2, fun v e => by cases e⟩
    · exact ⟨_, A3, fun v e => by cases e⟩
    · exact ⟨u1, B1, fun v e => by rw [C1] at e; cases e⟩
    · exact ⟨u2, B2, fun v e => by rw [C2] at e; cases e⟩
  keep := by
    rintro k g g' ⟨A1, A2, ⟨m, n, A3⟩, B1, B2⟩ kp
    exact ⟨kp z (by simp) _ A1, kp TI (by simp) _ A2, ⟨m, n, kp TO (by simp) _ A3⟩, B1.at (kp i1 (by simp)), B2.at (kp i2 (by simp))⟩
  item := by
    rintro X rfl rfl rfl hC k pins st τ G E Iv fpo ⟨A1, A2, ⟨m0, n0, A3⟩, B1, B2⟩ ⟨us, vs, m, n, qa, qb, em, en⟩
    have hh : X.A.in1.handled = none := Iv.ok.hd hC
    obtain ⟨ia, ra, ta, -⟩ := Iv.tuple qa
    obtain ⟨ib, rb, lb, -⟩ := Iv.list qb
    obtain ⟨u, hu, ru⟩ := ra.get em
    obtain ⟨v, hv, rv⟩ := rb.get en
    have zl := Heap.lt_size A1
    have ka : k < ia.toArray.size := by
      have := (List.getElem?_eq_some_iff.mp hu).1
      simpa using this
    have kb : k < ib.toArray.size := by
      have := (List.getElem?_eq_some_iff.mp hv).1
      simpa using this
    refine wpAny_pyNext_zipD2_item (sep_of D) (Draws.tuple hh i1 a D.l1i1 ia.toArray) (Draws.list hh i2 b D.l2i2 ib.toArray) A1 A2 A3 ⟨B1, ta⟩ ⟨B2, lb.isList⟩ ka kb fun x1 x2 g tk e1 e2 z1 O1 S1 S2 hT hs kp => ?_
    obtain rfl : u = x1 := by
      have : some u = some x1 := by rw [← hu, ← e1]; simp
      exact Option.some.inj this
    obtain rfl : v = x2 := by
      have : some v = some x2 := by rw [← hv, ← e2]; simp
      exact Option.some.inj this
    refine ⟨_, rfl, wpAny_letOwnedTupleGo_zip (s := { st with heap := g, toks := tk }) z1 fun g2 z2 sb => ?_⟩
    have hT2 : IsTupOf2 g2 st.heap.objs.size u v := (sb.2 _ (Nat.ne_of_gt zl)).trans hT
    have nw : ObjOk X.prog X.w (upd G st.heap.objs.size (.tup [m, n])) g2 st.heap.objs.size (.tup [m, n]) := ⟨Nat.le_of_ble_eq_true rfl, [u, v], .cons ru (.cons rv .nil), _, hT2, rfl, _, rfl⟩
    have old : ∀ c o, c ∉ [z, TI, TO, i1, i2] → st.heap.get? c = some o → g2.get? c = some o := fun c o hc e => by
      simp only [List.mem_cons, List.not_mem_nil, or_false, not_or] at hc
      exact (sb.2 c hc.1).trans (kp c o hc.1 hc.2.2.1 hc.2.2.2.1 hc.2.2.2.2 e)
    have I1 : Inv X pins τ (upd G st.heap.objs.size (.tup [m, n])) { st with heap := g2, toks := tk } := Iv.turnedNew (t' := tk) old fpo (Nat.le_refl _) nw
    refine ⟨.ref _, _, I1, rfl, ⟨_, m, n, rfl, Iv.hok.fresh (Nat.le_refl _), rfl, fun l hl => by rw [Iv.tuple_inj hl qa]; exact em, fun l hl => by rw [Iv.list_inj hl qb]; exact en⟩, ⟨z2, (sb.2 _ D.TIz).trans (kp _ _ D.TIz D.TITO D.TIi1 D.TIi2 A2), ⟨u, v, (sb.2 _ D.TOz).trans O1⟩, S1.1.at fun o e => (sb.2 _ D.i1z).trans e, S2.1.at fun o e => (sb.2 _ D.i2z).trans e⟩, fun c hc => ?_⟩
    have cl : c < st.heap.objs.size := by
      rcases in5 hc with rfl | rfl | rfl | rfl | rfl
      · exact zl
      · exact Heap.lt_size A2
      · exact Heap.lt_size A3
      · obtain ⟨_, e, _⟩ := B1
        exact Heap.lt_size e
      · obtain ⟨_, e, _⟩ := B2
        exact Heap.lt_size e
    rw [upd_ne (Nat.ne_of_lt cl)]
    exact (fpo c hc).1
  done := by
    rintro X rfl rfl rfl hC k pins st τ G E Iv fpo ⟨A1, A2, ⟨m0, n0, A3⟩, B1, B2⟩ ⟨us, vs, qa, qb, la, lb', en⟩
    have hh : X.A.in1.handled = none := Iv.ok.hd hC
    obtain ⟨ia, ra, ta, -⟩ := Iv.tuple qa
    obtain ⟨ib, rb, lb, -⟩ := Iv.list qb
    have r1 := ra.length
    have r2 := rb.length
    refine wpAny_pyNext_zipD2_end (sep_of D) (Draws.tuple hh i1 a D.l1i1 ia.toArray) (Draws.list hh i2 b D.l2i2 ib.toArray) A1 A2 A3 ⟨B1, ta⟩ ⟨B2, lb.isList⟩ (by simp; omega) (by simp; omega) (by simp; omega) fun g tk kp => ⟨rfl, Iv.turnedL (t' := tk) (ch := [z, TI, TO, i1, i2]) (fun c o hc e => ?_) fpo⟩
    simp only [List.mem_cons, List.not_mem_nil, or_false, not_or] at hc
    exact kp c o hc.1 hc.2.2.1 hc.2.2.2.1 hc.2.2.2.2 e
  self := fun _ _ _ _ _ t q => wpAny_pyIter_zip t.1 q
def iZipM (K : PySem.W.Frag) (ta : TA) : TI := fun σ H R => ta σ H fun xs G => ∃ a b us vs, xs = [.ref a, .ref b] ∧ SqT K G a us ∧ SqL K G b vs ∧ R (ItM K a b) G
theorem pi_zipM {X : Cx} {e1 e2 : Expr} {ta : TA} {p pos tpos : Pos} {elts : List Expr} {kk : Nat} (hg : Gl X "zip") (hm : X.mg "zip" = none) (ha : PA X [e1, e2] ta)
    (hs : starEach [e1, e2] X.env = (false, eval e1 X.env) :: starEach [e2] X.env := by rfl) (hp : (backTo pos (starEach [e2] X.env)).any (·.1) = false := by rfl) : PI X (.Tuple elts kk tpos) (.Call (.Name "zip" p) [e1, e2] [] pos) (iZipM X.K ta) where
  run := fun pins s σ H R I h => by
    refine Call_ (ld_blt I hg hm boot_zip (callWith_type1 (thn (ha.run pos pins s σ H _ I h) fun us st ⟨xs, G, Iv, rs, q⟩ => ?_) hs hp))
    obtain ⟨a, b, ua, vb, rfl, qa, qb, q⟩ := q
    cases rs with
    | cons r1 rs =>
      cases rs with
      | cons r2 rs =>
        cases rs
        cases r1
        cases r2
        obtain ⟨ia, ra, ta', -⟩ := Iv.tuple qa
        obtain ⟨ib, rb, lb, -⟩ := Iv.list qb
        obtain ⟨oa, ga, -⟩ := id ta'
        have al := Heap.lt_size ga
        refine zip_begins2 (begins_tuple a ia.toArray) (begins_list b ib.toArray) ta' lb.isList fun g z1 T1 O1 g1 g2 hs kp => wpAny_pyIter_zip z1 ?_
        have I2 : Inv X pins σ G { st with heap := g } := Iv.kept (t' := st.toks) kp
        refine ⟨_, [st.heap.objs.size + 4, st.heap.objs.size + 2, st.heap.objs.size + 3, st.heap.objs.size, st.heap.objs.size + 1], _, _, G, rfl, I2, turn_zipM (PySem.W.ktu_apart st.heap.objs.size a b al lb.lt), ⟨z1, T1, ⟨_, _, O1⟩, ⟨_, g1, rfl, rfl⟩, ⟨_, g2, rfl, rfl⟩⟩, fun c hc => ?_, q⟩
        have cl : st.heap.objs.size ≤ c := by
          rcases in5 hc with rfl | rfl | rfl | rfl | rfl <;> first | exact Nat.le_refl _ | exact Nat.le_add_right _ _
        exact Iv.fpOk cl (Iv.hok.fresh cl)
section
variable {K : PySem.W.Frag} {σ : L2.St} {H : Hp} {te : TE} {ta : TA} {P a b : Addr} {us xs : List V} {okc : Nat → (Nat → V) → V → Prop} {vals : Nat → V} {r : V} {j j2 : Nat} {vs : List Nat}
theorem ev_gxM {n : Nat} (h : EvA ta σ H [.ref a, .ref b]) (ha : SqT K H a us) (hb : SqL K H b xs) (hn : n = us.length) (hl : us.length ≤ xs.length) (hT : Tab H P) (ok : okc n vals r) (hw : ∀ x y, wipe (((wipe σ vs).set j (some x)).set j2 (some y)) vs = wipe σ vs)
    (he : ∀ (i : Nat) (x y : V) H1, Ex H H1 → us[i]? = some x → xs[i]? = some y → Ev te (((wipe σ vs).set j (some x)).set j2 (some y)) H1 (vals i)) : Ev (tGX P okc (iZipM K ta) (gTup K 2 (gCons (gName j) (gCons (gName j2) gNil))) te vs) σ H r := fun H1 e Q q =>
  h H1 e _ fun H2 e2 => by
    have s1 : ∀ {B : Hp}, Ex H2 B → SqT K B a us := fun w => ex_t ((e.trans e2).trans w) ha
    have s2 : ∀ {B : Hp}, Ex H2 B → SqL K B b xs := fun w => ex_l ((e.trans e2).trans w) hb
    refine ⟨a, b, us, xs, rfl, s1 (Ex.refl _), s2 (Ex.refl _), hT.mono (e.trans e2), n, vals, r, fun _ B => Ex H2 B, ok, Ex.refl _, fun i B hi w => ⟨⟨us, xs, us[i]'(by omega), xs[i]'(by omega), s1 w, s2 w, List.getElem?_eq_getElem _, List.getElem?_eq_getElem _⟩, fun x B2 hz => ?_⟩, fun B w => ⟨us, xs, s1 w, s2 w, by omega, by omega, .inl hn⟩, fun i B _ w => q B (e2.trans w)⟩
    obtain ⟨T, x1, y1, rfl, hT1, rfl, h1, h2⟩ := hz
    have e3 := ((e.trans e2).trans w).trans (Ex.new (o := .tup [x1, y1]) hT1)
    exact ⟨T, _, rfl, st_of upd_same, rfl, _, _, rfl, _, _, rfl, rfl, hw x1 y1, he i x1 y1 _ e3 (h1 us (s1 w)) (h2 xs (s2 w)) _ (Ex.refl _) _ fun B4 e4 => ⟨rfl, (w.trans (Ex.new hT1)).trans e4⟩⟩
end
/-! ### a, *b = a tuple -/
section
variable {X : Cx} {pos : Pos}
theorem pgs_star {t : Expr} {es : List Expr} {g : TG} {u : TGs} {p : Pos} (h1 : PG X t g) (h2 : PGs X es u) (hs : (assignEach (.Starred t p :: es) X.env).map (·.2) = assign t X.env :: (assignEach es X.env).map (·.2) := by rfl) : PGs X (.Starred t p :: es) (gCons g u) where
  run := fun pins s σ H vs us Q I r h => by
    obtain ⟨v, vr, rfl, h⟩ := h
    cases r with
    | cons r rr =>
      rw [hs]
      exact assignInOrder_cons (thn (h1.run pins s σ H _ _ _ I r h) fun _ s1 ⟨σ1, H1, I1, q1⟩ => h2.run pins s1 σ1 H1 _ _ Q I1 rr q1)
/-- one name, then the rest as a new list -/
def gStar (K : PySem.W.Frag) (t : TGs) : TG := fun v σ H Q => ∃ a x xs, v = .ref a ∧ SqT K H a (x :: xs) ∧ xs.length ≤ 10000 ∧ ∀ L, H L = none → t [x, .ref L] σ (upd H L (.lst xs)) Q
theorem pg_star {es : List Expr} {k : Nat} {t : TGs} (hc : X.calm = true) (h : PGs X es t) (hn : (assignEach es X.env).length = 2 := by rfl) (hst : (assignEach es X.env).findIdx? (·.1) = some 1 := by rfl) : PG X (.Tuple es k pos) (gStar X.K t) where
  run := fun pins s σ H v u Q I r hw => by
    obtain ⟨a, x, xs, rfl, hq, hz, hw⟩ := hw
    cases r
    obtain ⟨its, rv, ht, -⟩ := I.tuple hq
    have hh : X.A.handled = none := I.ok.hd hc
    have ht : IsTup s.heap a its.toArray := ht
    cases rv with
    | @cons _ y _ ys r1 rs =>
      have ln := rs.length
      rw [assign_Tuple]
      refine wpAny_bind (wpAny_standAt (?_ : wpAny _ _ (unpack _ _) _ _ _))
      unfold unpack
      rw [hn, hst]
      obtain ⟨ao, hao, -⟩ := id ht
      have al := Heap.lt_size hao
      have ane : a ≠ s.heap.objs.size := Nat.ne_of_lt al
      refine wpAny_bind (wpAny_holding (?_ : wpAny _ _ (unpackItems _ _ _) _ _ _))
      unfold unpackItems notIterableAtAll
      refine wpAny_bind (wpAny_bind (wpAny_specialOf ht.typeIs slot_tuple_iter.lookup (wpAny_pure ?_)))
      simp only [Option.isSome_some, if_true, if_false, Bool.false_eq_true]
      refine wpAny_bind (wpAny_holding (iter_tuple ht (?_ : _)))
      refine wpAny_bind (wpAny_holding (draw_tuple ane 1 0 _ _ ⟨_, Heap.get?_push_size _ rfl, rfl, rfl⟩ (ht.push _) (by simp) fun g1 t1 s1 => ?_))
      have ht1 : IsTup g1 a (y :: ys).toArray := (ht.push _).extBut s1.extBut ane
      obtain ⟨o1, ho1, -⟩ := id t1
      obtain ⟨o2, ho2, -⟩ := id ht1
      rw [show List.take 1 (List.drop 0 (y :: ys).toArray.toList) = [y] from rfl, if_neg (show ¬ [y].length < 1 from Nat.lt_irrefl 1)]
      refine wpAny_bind (wpAny_holding (PySem.W.kun_collect (s := { s with heap := g1 }) (T := "tuple_iterator") (.inr (.inr (.inr rfl))) (Walks.tuple (A := X.A.in1) (show X.A.in1.handled = none from hh) s.heap.objs.size a ane (y :: ys).toArray) (fun _ _ q => q.1.typeIs) (k := 1) (by simp) ⟨t1, ht1⟩ (Heap.lt_size ho1) (Heap.lt_size ho2) (fun g2 tk kp => ?_) (by simp; exact sz_of (by omega))))
      rw [show (y :: ys).toArray.toList.drop 1 = ys from rfl]
      rw [if_neg (show ¬ ys.length < 2 - 1 - 1 by omega)]
      have k2 : ∀ b o, s.heap.get? b = some o → g2.get? b = some o := fun b o e => by
        have bl := Heap.lt_size e
        exact kp b o (Nat.ne_of_lt bl) (s1.extBut b o (Nat.ne_of_lt bl) (Heap.get?_push_of_some _ e))
      have I2 : Inv X pins σ H { s with heap := g2, toks := tk } := I.kept (t' := tk) k2
      rw [show ys.length - (2 - 1 - 1) = ys.length from rfl, List.take_length, List.drop_length]
      refine wpAny_bind (m := newList ys) (wpAny_newObj_type (T := "list") ?_ (by show ys.toArray.size ≤ sizeLine; rw [List.size_toArray]; exact sz_of (by omega)))
      refine wpAny_pure ?_
      have fr : H g2.objs.size = none := I2.hok.fresh (Nat.le_refl _)
      have I3 : Inv X pins σ (upd H g2.objs.size (.lst xs)) { s with heap := g2.push { cls := .type "list", data := .seq ys.toArray }, toks := tk } := I2.laid (t' := tk) (fun b u e => Heap.get?_push_of_some _ e) (Nat.le_refl _) ⟨sz_of (by omega), ys, 0, rs, Heap.get?_push_size _ rfl⟩
      exact h.run pins _ σ _ [x, .ref _] [y, .ref _] Q I3 (.cons r1 (.cons rfl .nil)) (hw _ fr)
end
end LZ

set_option Elab.async false
set_option linter.all false
set_option maxRecDepth 100000
set_option maxHeartbeats 4000000
namespace LW
open PySem PySem.Spec PyProof.Rows L2 Evl LT
/-! ### a written dict: numbers to tuples of texts -/
def strsB : List Value → List Str → Bool
  | [], [] => true
  | .str x _ :: us, z :: zs => decide (x = z) && strsB us zs
  | _, _ => false
theorem strsB_ok : ∀ {us : List Value} {zs : List Str}, strsB us zs = true → Vals (zs.map V.str) us
  | [], [], _ => .nil
  | .str x t :: us, z :: zs, h => by
    have h2 := Bool.and_eq_true_iff.mp (show (decide (x = z) && strsB us zs) = true from h)
    obtain rfl : x = z := of_decide_eq_true h2.1
    exact .cons ⟨t, rfl⟩ (strsB_ok h2.2)
def tupB (K : PySem.W.Frag) (v : Value) (zs : List Str) : Bool := match v with
  | .ref t => match K.lookup t with
    | some o => decide (o.cls = .type "tuple") && match o.data with
      | .seq its _ => decide (its.size ≤ 1000) && strsB its.toList zs
      | _ => false
    | none => false
  | _ => false
theorem tupB_ok {K : PySem.W.Frag} {v : Value} {zs : List Str} (h : tupB K v zs = true) : ∃ t, v = .ref t ∧ ∀ H, SqT K H t (zs.map V.str) := by
  unfold tupB at h
  split at h
  · rename_i t
    split at h
    · rename_i o ho
      obtain ⟨h1, h⟩ := Bool.and_eq_true_iff.mp h
      split at h
      · rename_i its n hd
        obtain ⟨h2, h3⟩ := Bool.and_eq_true_iff.mp h
        exact ⟨t, rfl, fun H => .inr ⟨o, its, n, ho, of_decide_eq_true h1, hd, Nat.le_trans (of_decide_eq_true h2) (by decide), strsB_ok h3⟩⟩
      · cases h
    · cases h
  · cases h
abbrev Wks := List (Int × List Str)
def getW (kvs : Wks) (i : Int) : Option (List Str) := (kvs.find? fun kv => decide (kv.1 = i)).map (·.2)
def entsB (K : PySem.W.Frag) : List DictEntry → Wks → Bool
  | [], [] => true
  | e :: es, kv :: kvs => Value.isInt kv.1 e.key && (decide (e.hash = hashInt kv.1) && (tupB K e.val kv.2 && entsB K es kvs))
  | _, _ => false
def dictB (K : PySem.W.Frag) (a : Addr) (kvs : Wks) : Bool := match K.lookup a with
  | some o => decide (o.cls = .type "dict") && (o.dict.isNone && (o.slots.isEmpty && (!(a == sysModules) && match o.data with
    | .dict es _ => entsB K es.toList kvs
    | _ => false)))
  | none => false
structure WI (K : PySem.W.Frag) (a : Addr) (kvs : Wks) : Prop where
  ok : dictB K a kvs = true
  nd : (kvs.map (·.1)).Nodup
theorem ents_ok {P : Program} {w : World} {K : PySem.W.Frag} : ∀ {es : List DictEntry} {kvs : Wks}, entsB K es kvs = true → ∃ vs : List (Key × Value), (∀ e ∈ es, ∃ k, (mixKind P w).is k e.key = true ∧ e.hash = (mixKind P w).hash k) ∧ Pairs (mixKind P w) es vs ∧ vs.map (·.1) = kvs.map (fun kv => (Sum.inl kv.1 : Key)) ∧
    ∀ i : Int, (getW kvs i = none ∧ valueAt vs (.inl i) = none) ∨ ∃ zs t, getW kvs i = some zs ∧ valueAt vs (.inl i) = some (.ref t) ∧ ∀ H, SqT K H t (zs.map V.str)
  | [], [], _ => ⟨[], fun e he => (by cases he), .nil, rfl, fun i => .inl ⟨rfl, rfl⟩⟩
  | e :: es, kv :: kvs, h => by
    obtain ⟨h1, h⟩ := Bool.and_eq_true_iff.mp (show (Value.isInt kv.1 e.key && (decide (e.hash = hashInt kv.1) && (tupB K e.val kv.2 && entsB K es kvs))) = true from h)
    obtain ⟨h2, h⟩ := Bool.and_eq_true_iff.mp h
    obtain ⟨h3, h⟩ := Bool.and_eq_true_iff.mp h
    obtain ⟨vs, v1, v2, v3, v4⟩ := ents_ok (P := P) (w := w) h
    obtain ⟨t, ht, hq⟩ := tupB_ok h3
    have hk : (mixKind P w).is (Sum.inl kv.1) e.key = true := h1
    refine ⟨(.inl kv.1, e.val) :: vs, fun x hx => ?_, .cons hk rfl v2, by rw [List.map_cons, List.map_cons, v3], fun i => ?_⟩
    · rcases List.mem_cons.mp hx with rfl | hx
      · exact ⟨_, hk, of_decide_eq_true h2⟩
      · exact v1 x hx
    · unfold getW valueAt at *
      by_cases c : kv.1 = i
      · subst c
        refine .inr ⟨kv.2, t, by rw [List.find?_cons_of_pos (by simp)]; rfl, ?_, hq⟩
        rw [List.find?_cons_of_pos (by simp), ← ht]
        rfl
      · rw [List.find?_cons_of_neg (by simpa using c), List.find?_cons_of_neg (by simpa using fun e : (Sum.inl kv.1 : Key) = Sum.inl i => c (Sum.inl.inj e))]
        exact v4 i
theorem nodup_inl {l : Wks} (h : (l.map (·.1)).Nodup) : (l.map (fun kv => (Sum.inl kv.1 : Key))).Nodup := by
  have : l.map (fun kv => (Sum.inl kv.1 : Key)) = (l.map (·.1)).map Sum.inl := by rw [List.map_map]; rfl
  rw [this]
  exact List.pairwise_map.mpr (h.imp fun a b => a (Sum.inl.inj b))
theorem wi_dd {X : Cx} {d : Addr} {kvs : Wks} (D : WI X.K d kvs) {pins : List (Addr × Obj)} {σ : L2.St} {H : Hp} {s : Shared} (I : Inv X pins σ H s) : (d == sysModules) = false ∧ ∃ vs : List (Key × Value), s.heap.DictOf (mixKind X.prog X.w) d vs ∧
    ∀ i : Int, (getW kvs i = none ∧ valueAt vs (.inl i) = none) ∨ ∃ zs t, getW kvs i = some zs ∧ valueAt vs (.inl i) = some (.ref t) ∧ ∀ H, SqT X.K H t (zs.map V.str) := by
  have h := D.ok
  unfold dictB at h
  split at h
  · rename_i o ho
    obtain ⟨h1, h⟩ := Bool.and_eq_true_iff.mp h
    obtain ⟨h2, h⟩ := Bool.and_eq_true_iff.mp h
    obtain ⟨h3, h⟩ := Bool.and_eq_true_iff.mp h
    obtain ⟨h4, h⟩ := Bool.and_eq_true_iff.mp h
    split at h
    · rename_i es n hd
      obtain ⟨vs, v1, v2, v3, v4⟩ := ents_ok (P := X.prog) (w := X.w) h
      refine ⟨by simpa using h4, vs, ⟨o, es, n, I.kIn _ _ ho, ⟨of_decide_eq_true h1, by simpa using h2, by simpa using h3⟩, hd, fun e he => v1 e (Array.mem_toList_iff.mpr he), v2, by rw [v3]; exact nodup_inl D.nd⟩, v4⟩
    · cases h
  · cases h
def rNiW (K : PySem.W.Frag) : R2 := fun x y H Q => ∃ (i : Int) (d : Addr) (kvs : Wks), x = .int i ∧ y = .ref d ∧ WI K d kvs ∧ Q (.bl (!(getW kvs i).isSome)) H
def rIxW (K : PySem.W.Frag) : R2 := fun x y H Q => ∃ (i : Int) (d : Addr) (kvs : Wks) (zs : List Str), x = .ref d ∧ y = .int i ∧ WI K d kvs ∧ getW kvs i = some zs ∧ ∀ t, (∀ H', SqT K H' t (zs.map V.str)) → Q (.ref t) H
section
variable {X : Cx}
theorem op_notIn_wi : OpR X (compareOp .NotIn) (rNiW X.K) := by
  rintro pins s σ H x y v u Q I rx ry ⟨i, d, kvs, rfl, rfl, D, q⟩
  obtain ⟨lo, vs, dd, hv⟩ := wi_dd D I
  cases ry
  refine wpAny_notIn_of (kV_is (k := Sum.inl i) rx) lo dd.mapOf ?_
  have e : (valueAt vs (Sum.inl i : Key)).isSome = (getW kvs i).isSome := by
    rcases hv i with ⟨a, b⟩ | ⟨zs, t, a, b, _⟩ <;> rw [a, b] <;> rfl
  rw [e]
  exact ⟨.bl _, H, I.tok _, rfl, q⟩
theorem ix_wi : IxR X (rIxW X.K) := by
  rintro value slice pins s σ H x y v u Q I rx ry ⟨i, d, kvs, zs, rfl, rfl, D, hz, q⟩ hs
  obtain ⟨lo, vs, dd, hv⟩ := wi_dd D I
  cases rx
  rcases hv i with ⟨a, _⟩ | ⟨zs', t, a, b, hq⟩
  · rw [hz] at a
    cases a
  · rw [hz] at a
    cases a
    exact tail_any dd.mapOf.typeIs PySem.F.slot_dict_getitem.lookup (wpAny_getItem_of (kV_is (k := Sum.inl i) ry) dd.mapOf b ⟨.ref t, H, I.tok _, rfl, q t hq⟩) hs
end
section
variable {K : PySem.W.Frag} {H : Hp} {i : Int} {d : Addr} {kvs : Wks}
theorem rv_niW (D : WI K d kvs) : RV (rNiW K) (.int i) (.ref d) H (.bl (!(getW kvs i).isSome)) := rv_val fun _ _ Q q => ⟨i, d, kvs, rfl, rfl, D, q⟩
end
/-! ### any(a list of numbers) -/
def anyN (ns : List Int) : Bool := (List.range ns.length).any fun i => !decide (ns.getD i 0 = 0)
def rAnyN (K : PySem.W.Frag) : List V → Hp → VK → Prop := fun vs H Q => ∃ (a : Addr) (ns : List Int), vs = [V.ref a] ∧ SqL K H a (ns.map V.int) ∧ Q (.bl (anyN ns)) H
theorem truth_ints {prog : Program} {w : World} {A : Around} {ns : List Int} {its : List Value} (e : Vals (ns.map V.int) its) : TruthOf prog w A (fun i v => its.toArray[i]? = some v) (fun i => !decide (ns.getD i 0 = 0)) := fun i v s Q E hv hq => by
  have hv' : its[i]? = some v := by simpa using hv
  have hl : i < ns.length := by
    have h1 := (List.getElem?_eq_some_iff.mp hv').1
    have h2 := e.length
    rw [List.length_map] at h2
    omega
  obtain ⟨u, hu, ru⟩ := e.get (show (ns.map V.int)[i]? = some (.int ns[i]) by rw [List.getElem?_map, List.getElem?_eq_getElem hl]; rfl)
  rw [hv'] at hu
  cases hu
  obtain ⟨t, rfl⟩ := (show ∃ t, v = Value.int ns[i] t from ru)
  have hg : ns.getD i 0 = ns[i] := by rw [List.getD_eq_getElem?_getD, List.getElem?_eq_getElem hl]; rfl
  have hq' : Q (!decide (ns.getD i 0 = 0)) s := hq
  rw [hg] at hq'
  refine PySem.P.truthy_int ?_
  rw [show (ns[i] != 0) = !decide (ns[i] = 0) by rw [Bool.eq_iff_iff]; simp]
  exact hq'
theorem cr_anyN {X : Cx} (hc : X.calm = true) : CallR X (.builtin "any") (rAnyN X.K) := by
  rintro pins s σ H vs us Q I r ⟨a, ns, rfl, hs, q⟩
  obtain ⟨its, rv, hl, -⟩ := I.list hs
  rw [Vals.ref1 r]
  refine call_any_walk (iter_any hl.isList fun s2 e2 st hne => ?_)
  subst e2
  refine ⟨_, _, _, _, _, _, _, rfl, Walks.list (A := X.A.in1) (I.ok.hd hc) _ a hne its.toArray, st, truth_ints rv, fun h' tk hk => ⟨.bl _, H, I.kept fun b o eo => hk b o (fun hm => ?_) (Heap.get?_push_of_some _ eo), ?_, q⟩⟩
  · rcases List.mem_cons.mp hm with e1 | hm
    · exact absurd (e1 ▸ Heap.lt_size eo) (Nat.lt_irrefl _)
    · cases hm
  · show Value.bool _ = Value.bool _
    have h2 := rv.length
    rw [List.length_map] at h2
    unfold anyN
    rw [List.size_toArray, h2]
theorem ev_anyN {K : PySem.W.Frag} {σ : L2.St} {H : Hp} {te : TE} {ns : List Int} (h : EvL te σ H (ns.map V.int)) : Ev (tCB (rAnyN K) (tCons te tNil)) σ H (.bl (anyN ns)) := fun H1 e Q q => h H1 e _ fun p H2 _ e2 h2 => ⟨p, ns, rfl, sq_of h2, q H2 e2⟩
theorem anyN_zero (n : Nat) : anyN (List.replicate n 0) = false := by
  unfold anyN
  rw [List.any_eq_false]
  intro i hi
  rw [List.mem_range, List.length_replicate] at hi
  simp [List.getD_eq_getElem?_getD, hi]
end LW

set_option Elab.async false
set_option linter.all false
set_option maxRecDepth 100000
set_option maxHeartbeats 4000000
namespace HE
open PySem PySem.Spec PyProof.Rows L2 Evl LT
/-! ### the head by facts: defs, their code objects, the walk's end -/
theorem fun_of {K : PySem.W.Frag} {x qual : Str} {st : Stmt} {f : Addr} {fd : FuncData} (F : FunD K x qual (defArgs st) (defBody st) (defScope st) [] [] f fd) : Fun K x qual st f fd := by
  obtain ⟨oc, od, dV, kV, doc, pm, an, cdv, ct, osl, rfl, lk, hcd, hd, _⟩ := F.ex
  have e : dV = .none := by
    rcases hd with ⟨_, h⟩ | ⟨h, _⟩
    · exact h
    · exact absurd rfl h
  subst e
  exact ⟨⟨oc, od, kV, doc, pm, an, cdv, ct, osl, rfl, lk, hcd⟩, F.kp⟩
theorem funC_of {K : PySem.W.Frag} {x qual : Str} {st : Stmt} {p : He.Defn} {fd : FuncData} (F : Fun K x qual st (He.fAd K p) fd) : LS.FunC K x qual st (He.fAd K p) fd (He.codeOf K p) := by
  obtain ⟨oc, od, kV, doc, pm, an, cdv, ct, osl, rfl, lk, hcd⟩ := F.ex
  obtain ⟨c, rfl⟩ := He.codeIn_ref hcd
  have e : He.codeOf K p = c := He.codeOf_eq lk rfl
  rw [e]
  exact ⟨⟨oc, od, kV, doc, pm, an, ct, osl, rfl, lk, hcd⟩, F.kp⟩
/-- what the Bool ex tells of the classes -/
def eqS (a b : Option (Option Value)) : Bool := decide (a = b)
theorem eqS_ok {a b : Option (Option Value)} (h : eqS a b = true) : a = b := of_decide_eq_true h
def dictC (K : PySem.W.Frag) (x : Str) : Bool := PySem.W.hasDictIn K (He.ga K x)
def subC (K : PySem.W.Frag) (x y : Str) (b : Bool) : Bool := decide (PySem.W.subIn K (.ref (He.ga K x)) (.ref (He.ga K y)) = some b)
theorem subC_ok {K : PySem.W.Frag} {x y : Str} {b : Bool} (h : subC K x y b = true) : PySem.W.subIn K (.ref (He.ga K x)) (.ref (He.ga K y)) = some b := of_decide_eq_true h
def excC (K : PySem.W.Frag) (x : Str) : Bool := eqS (PySem.W.findIn K (.ref (He.ga K x)) "__getattribute__") (some (some (.builtin "BaseException.__getattribute__"))) && (eqS (PySem.W.findIn K (.ref (He.ga K x)) "__getattr__") (some none) &&
  (decide (PySem.W.subIn K (.ref (He.ga K x)) (.type "BaseException") = some true) && (PySem.W.hasDictIn K (He.ga K x) && (eqS (PySem.W.findIn K (.ref (He.ga K x)) "__class__") (some (some (.builtin "object.__class__"))) &&
  (eqS (PySem.W.specialIn K (.builtin "object.__class__") "__get__") (some (some (.builtin "getset_descriptor.__get__"))) && (decide (PySem.W.takesIn K (.builtin "object.__class__") = some true) && decide (PySem.W.mroIn K (He.ga K x) (.type "object") = some true)))))))
theorem excC_ok {K : PySem.W.Frag} {x : Str} (h : excC K x = true) : ExcC K (He.ga K x) := by
  obtain ⟨h1, h⟩ := He.ba h
  obtain ⟨h2, h⟩ := He.ba h
  obtain ⟨h3, h⟩ := He.ba h
  obtain ⟨h4, h⟩ := He.ba h
  obtain ⟨h5, h⟩ := He.ba h
  obtain ⟨h6, h⟩ := He.ba h
  obtain ⟨h7, h8⟩ := He.ba h
  exact ⟨eqS_ok h1, eqS_ok h2, of_decide_eq_true h3, h4, eqS_ok h5, eqS_ok h6, of_decide_eq_true h7, of_decide_eq_true h8⟩
theorem xc_of {K : PySem.W.Frag} {h : Heap} {mg : Str → Option Value} {x : Str} (X : K.In h) (G : h.Ns mainGlobals mg) (g : (He.Fa.glo x).ok K = true) (c : (He.Fa.exc x).ok K = true) (d : dictC K x = true) : LX.Xc K mg x (He.ga K x) := by
  obtain ⟨h1, h2, h3, h4⟩ := He.exc_ok c
  exact ⟨He.glo_ok X G g, h1, h2, h3, h4, d⟩
theorem binds1 {K : PySem.W.Frag} {x qual y : Str} {st : Stmt} {f : Addr} {fd : FuncData} (F : Fun K x qual st f fd) (h : ∀ (kV doc pm : Value) (an : Option Addr) (cdv ct : Value) (u : Value), bindArgs (PySem.W.fnOf x qual (defArgs st) (defBody st) (defScope st) .none kV doc pm an cdv ct) ⟨[u], []⟩ = pure [(y, u)]) (s : Shared) (u : Value) : BindsTo s fd ⟨[u], []⟩ [(y, u)] := by
  obtain ⟨oc, od, kV, doc, pm, an, cdv, ct, osl, rfl, lk, hcd⟩ := F.ex
  exact .of_eq (h kV doc pm an cdv ct u)
/-- the walk, tables of any defs (methods too) -/
theorem walk_facts {l : PySem.W.OpenLaw} {n k : Nat} {q : Program} {loose : List Str} {XP : (Str → Option Value) → Heap → Prop} {YP : World → Heap → Prop} {d : DefRec} {x : Str}
    (hn : l.most = some n) (hn2 : n ≤ sizeLine) (hdf : d.params.defaults = []) (hr : Room k callerA)
    (F : ∀ (w : World) (mg : Str → Option Value) (fa : Addr) (h : Heap), YP w h → h.Ns mainGlobals mg → mg d.name = some (.ref fa) →
      ∃ (K : PySem.W.Frag) (fd : FuncData) (cs : List (Addr × Addr)) (sp : Sp), K.In h ∧ (∀ p ∈ cs, h.get? p.2 = some { cls := .none, data := .fields #[] } ∧ K.lookup p.2 = none ∧ PySem.W.CodeHd h p.1 p.2) ∧ (∀ (s : Shared) (u : Value), BindsTo s fd ⟨[u], []⟩ [(x, u)]) ∧
        (∀ (H : Hp) (a : Addr) (ns : List Int), ns.length ≤ n → (∀ p ∈ cs, Tab H p.2) → SqL K H a (ns.map V.int) → ∀ Q : VK, (∀ H', Ex H H' → Q (.bl true) H') → sp [.ref a] H Q fun _ _ _ => False) ∧
        ∀ base : Heap, K.In base → base.Ns mainGlobals mg → (∀ p ∈ cs, LamX.TabB base mg p.1 p.2) → FnOk l.prog w K mg base CX0 k fa fd [x] sp) :
    PySem.W.WalkO q loose XP YP l.row.toRowW d [] (fun f vs => PySem.call f vs) := by
  refine LamX.walk_ofTsE (x := x) (CX := fun _ => CX0) hn hn2 hdf hr (fun w mg fa h Y G hmg => ?_) (fun _ _ _ _ _ z => z)
  obtain ⟨K, fd, cs, sp, KX, hcs, hb, hsp, hF⟩ := F w mg fa h Y G hmg
  refine ⟨K, KX, fd, cs, spExt (cs.map fun p => p.2) sp, fun p hp => (hcs p hp).1, fun p hp => (hcs p hp).2.1, fun p hp => (hcs p hp).2.2, hb, fun H a ns hlen _ hH hS => ⟨fun b hb => ?_, ?_⟩, fun base h1 h2 h3 => ok_ext (hF base h1 h2 h3)⟩
  · obtain ⟨p, hp, rfl⟩ := List.mem_map.mp hb
    exact hH p hp
  · have hnt : ∀ p ∈ cs, extH (cs.map fun p => p.2) H p.2 = some (.ext (TabPhi p.2)) := fun p hp => extH_in (List.mem_map.mpr ⟨p, hp, rfl⟩)
    refine hsp _ a ns hlen hnt ?_ _ fun H' e => ⟨fun b hb => ?_, fun _ => rfl⟩
    · have out : ∀ {u : HO}, H a = some u → (∀ ts, u ≠ .tbl ts) → extH (cs.map fun p => p.2) H a = some u := fun {u} h1 h2 => by
        rw [extH_out fun hb => ?_]
        · exact h1
        · obtain ⟨p, hp, e⟩ := List.mem_map.mp hb
          have := hH p hp
          have e : p.2 = a := e
          rw [e, h1] at this
          cases this
          exact h2 _ rfl
      rcases hS with (h1 | ⟨o, h1⟩) | h1
      · exact .inl (.inl (out h1 fun _ z => by cases z))
      · exact .inl (.inr ⟨o, out h1 fun _ z => by cases z⟩)
      · exact .inr h1
    · obtain ⟨p, hp, rfl⟩ := List.mem_map.mp hb
      exact e _ _ (hnt p hp)
end HE

set_option Elab.async false
set_option linter.all false
set_option maxRecDepth 100000
set_option maxHeartbeats 4000000
namespace LK
open PySem PySem.Spec PyProof.Rows L2 Evl

/-! ### data that == serves -/
def Sh (n : Nat) (d : PyData) : Prop := d.canLay0 = true ∧ d.depth ≤ n
theorem sh_int (i : Int) (n : Nat := 0) : Sh n (.int i) := ⟨by simp [PyData.canLay0], by simp [PyData.depth]⟩
theorem sh_bool (b : Bool) (n : Nat := 0) : Sh n (.bool b) := ⟨by simp [PyData.canLay0], by simp [PyData.depth]⟩
theorem sh_none (n : Nat := 0) : Sh n .none := ⟨by simp [PyData.canLay0], by simp [PyData.depth]⟩
theorem sh_all {n : Nat} : ∀ {ds : List PyData}, (∀ d ∈ ds, Sh n d) → PyData.canLayAll0 ds = true ∧ PyData.depthAll ds ≤ n
  | [], _ => ⟨by simp [PyData.canLayAll0], by simp [PyData.depthAll]⟩
  | d :: ds, h => by
    obtain ⟨h1, h2⟩ := h d List.mem_cons_self
    obtain ⟨h3, h4⟩ := sh_all fun e he => h e (List.mem_cons_of_mem _ he)
    refine ⟨?_, ?_⟩
    · rw [PyData.canLayAll0, h1, h3]
      rfl
    · rw [PyData.depthAll]
      omega
theorem sh_tup {n : Nat} {ds : List PyData} (h : ∀ d ∈ ds, Sh n d) : Sh (n + 1) (.tuple ds) := by
  obtain ⟨h1, h2⟩ := sh_all h
  refine ⟨?_, ?_⟩
  · rw [PyData.canLay0]
    exact h1
  · rw [PyData.depth]
    omega
theorem sh_lst {n : Nat} {ds : List PyData} (h : ∀ d ∈ ds, Sh n d) : Sh (n + 1) (.list ds) := by
  obtain ⟨h1, h2⟩ := sh_all h
  refine ⟨?_, ?_⟩
  · rw [PyData.canLay0]
    exact h1
  · rw [PyData.depth]
    omega
theorem Sh.up {n m : Nat} {d : PyData} (h : Sh n d) (e : n ≤ m) : Sh m d := ⟨h.1, Nat.le_trans h.2 e⟩
theorem Sh.shaped {n : Nat} {d : PyData} (h : Sh n d) (e : n ≤ 64) : SeqAt.shaped d = true := by
  unfold SeqAt.shaped
  rw [h.1, decide_eq_true (Nat.le_trans h.2 e)]
  rfl
theorem Sh.refl {n : Nat} {d : PyData} (h : Sh n d) : PyData.eqv d d = true := SeqAt.eqv_refl d h.1
theorem sh_ints (ns : List Int) : ∀ d ∈ ns.map PyData.int, Sh 0 d := fun d hd => by
  obtain ⟨i, _, rfl⟩ := List.mem_map.mp hd
  exact sh_int i
section
variable {K : PySem.W.Frag} {H H' : Hp}
theorem dp_ints : ∀ ns : List Int, DpAll K H (ns.map V.int) (ns.map PyData.int)
  | [] => .nil
  | n :: r => .cons (.int n) (dp_ints r)
mutual
theorem dp_mono (e : Ex H H') : ∀ {v : V} (d : PyData), Dp K H v d → Dp K H' v d
  | _, .none, h => by cases h; exact .non
  | _, .bool b, h => by cases h; exact .bl b
  | _, .int i, h => by cases h; exact .int i
  | _, .str x, h => by cases h; exact .str x
  | _, .list ds, h => by
    cases h with
    | lst h1 h2 => exact .lst (ex_l e h1) (dpa_mono e ds h2)
  | _, .tuple ds, h => by
    cases h with
    | tup h1 h2 => exact .tup (ex_t e h1) (dpa_mono e ds h2)
  | _, .dict _, h => by cases h
theorem dpa_mono (e : Ex H H') : ∀ {vs : List V} (ds : List PyData), DpAll K H vs ds → DpAll K H' vs ds
  | _, [], h => by cases h; exact .nil
  | _, d :: ds, h => by
    cases h with
    | cons h1 h2 => exact .cons (dp_mono e d h1) (dpa_mono e ds h2)
end
/-- two values of the same data: == True, != False -/
theorem rv_eqD {x y : V} {d : PyData} {n : Nat} (hx : Dp K H x d) (hy : Dp K H y d) (s : Sh n d) (hn : n ≤ 64) : RV (rEqD K) x y H (.bl true) := rv_val fun H1 e Q q =>
  ⟨d, d, dp_mono e d hx, dp_mono e d hy, s.shaped hn, s.shaped hn, by rw [s.refl]; exact q⟩
theorem rv_neD {x y : V} {d : PyData} {n : Nat} (hx : Dp K H x d) (hy : Dp K H y d) (s : Sh n d) (hn : n ≤ 64) : RV (rNeD K) x y H (.bl false) := rv_val fun H1 e Q q =>
  ⟨d, d, dp_mono e d hx, dp_mono e d hy, s.shaped hn, s.shaped hn, by rw [s.refl]; exact q⟩
/-- of any two data -/
theorem rv_neDD {x y : V} {d f : PyData} {n : Nat} (hx : Dp K H x d) (hy : Dp K H y f) (s : Sh n d) (s' : Sh n f) (hn : n ≤ 64) : RV (rNeD K) x y H (.bl (!PyData.eqv d f)) := rv_val fun H1 e Q q =>
  ⟨d, f, dp_mono e d hx, dp_mono e f hy, s.shaped hn, s'.shaped hn, q⟩
theorem rv_eqDD {x y : V} {d f : PyData} {n : Nat} (hx : Dp K H x d) (hy : Dp K H y f) (s : Sh n d) (s' : Sh n f) (hn : n ≤ 64) : RV (rEqD K) x y H (.bl (PyData.eqv d f)) := rv_val fun H1 e Q q =>
  ⟨d, f, dp_mono e d hx, dp_mono e f hy, s.shaped hn, s'.shaped hn, q⟩
theorem rv_ltT {a b : Addr} {ns ms : List Int} (ha : SqT K H a (ns.map V.int)) (hb : SqT K H b (ms.map V.int)) : RV (rLtT K) (.ref a) (.ref b) H (.bl (HT.lexLt ns ms)) := rv_val fun H1 e Q q =>
  ⟨a, b, ns, ms, rfl, rfl, ex_t e ha, ex_t e hb, q⟩
def leV (ns ms : List Int) : Bool := Ob.lexAt (fun j => decide (ns.getD j 0 = ms.getD j 0)) (fun j => decide (ns.getD j 0 ≤ ms.getD j 0)) (decide (ns.length ≤ ms.length)) 0 (min ns.length ms.length)
theorem rv_leT {a b : Addr} {ns ms : List Int} (ha : SqT K H a (ns.map V.int)) (hb : SqT K H b (ms.map V.int)) : RV (rLeT K) (.ref a) (.ref b) H (.bl (leV ns ms)) := rv_val fun H1 e Q q =>
  ⟨a, b, ns, ms, rfl, rfl, ex_t e ha, ex_t e hb, q⟩

/-! ### reading a cell of the script -/
def cellv (ns : List Int) (k : Nat) : Int := ns.getD k 0
theorem cellv_in {ns : List Int} {k : Nat} (hk : k < ns.length) : (ns.map V.int)[k]? = some (.int (cellv ns k)) := by
  rw [List.getElem?_map, List.getElem?_eq_getElem hk]
  unfold cellv
  rw [List.getD_eq_getElem?_getD, List.getElem?_eq_getElem hk]
  rfl
theorem cellv_out {ns : List Int} {k : Nat} (hk : ns.length ≤ k) : cellv ns k = 0 := by
  unfold cellv
  rw [List.getD_eq_getElem?_getD, List.getElem?_eq_none hk]
  rfl
def spCel (K : PySem.W.Frag) : Sp := fun vs H Q _ => ∃ (a : Addr) (ns : List Int) (k : Nat), vs = [.ref a, .int (k : Int)] ∧ SqL K H a (ns.map V.int) ∧ RetV (.int (cellv ns k)) H Q
theorem sv_cell {a : Addr} {ns : List Int} {k : Nat} {z : Int} (h : SqL K H a (ns.map V.int)) (e : z = (k : Int)) : SpV (spCel K) [.ref a, .int z] H (.int (cellv ns k)) := fun H1 e1 Q q E =>
  ⟨a, ns, k, by rw [e], ex_l e1 h, fun H2 e2 => q H2 e2⟩
end
end LK

namespace K68D
open PySem PySem.Spec PyProof.Rows L2 Evl LK LT LG LS LQ LX LO LN LP
def top (i : Nat) : Stmt := PySem.Challenge.pw_laminae_k68_whole_torn_logs.main.body.getD i (.Pass ⟨0, 0, 0, 0⟩)
abbrev sIw : Stmt := top 12
theorem scIw : FnScope ["value"] ["value"] (defScope sIw) := ⟨rfl, rfl, rfl, by decide +kernel, rfl, by decide +kernel, by decide +kernel⟩
abbrev sAre : Stmt := top 13
theorem scAre : FnScope ["values", "many"] ["values", "many"] (defScope sAre) := ⟨rfl, rfl, rfl, by decide +kernel, rfl, by decide +kernel, by decide +kernel⟩
abbrev sSize : Stmt := top 22
theorem scSize : FnScope ["blocks"] ["blocks"] (defScope sSize) := ⟨rfl, rfl, rfl, by decide +kernel, rfl, by decide +kernel, by decide +kernel⟩
abbrev sChs : Stmt := top 23
theorem scChs : FnScope ["choices"] ["choices"] (defScope sChs) := ⟨rfl, rfl, rfl, by decide +kernel, rfl, by decide +kernel, by decide +kernel⟩
abbrev sInit : Stmt := inClass (top 24) 0
theorem scInit : FnScope ["self", "blocks", "_"] ["self", "blocks"] (defScope sInit) := ⟨rfl, rfl, rfl, by decide +kernel, rfl, by decide +kernel, by decide +kernel⟩
abbrev sRead : Stmt := inClass (top 24) 1
theorem scRead : FnScope ["self", "sector"] ["self", "sector"] (defScope sRead) := ⟨rfl, rfl, rfl, by decide +kernel, rfl, by decide +kernel, by decide +kernel⟩
abbrev sWrite : Stmt := inClass (top 24) 2
theorem scWrite : FnScope ["self", "sector", "words", "written"] ["self", "sector", "words"] (defScope sWrite) := ⟨rfl, rfl, rfl, by decide +kernel, rfl, by decide +kernel, by decide +kernel⟩
abbrev sFlush : Stmt := inClass (top 24) 3
theorem scFlush : FnScope ["self"] ["self"] (defScope sFlush) := ⟨rfl, rfl, rfl, by decide +kernel, rfl, by decide +kernel, by decide +kernel⟩
abbrev sWait : Stmt := inClass (top 24) 4
theorem scWait : FnScope ["self", "sector", "words"] ["self"] (defScope sWait) := ⟨rfl, rfl, rfl, by decide +kernel, rfl, by decide +kernel, by decide +kernel⟩
abbrev sCut : Stmt := inClass (top 24) 6
theorem scCut : FnScope ["self", "choices"] ["self", "choices"] (defScope sCut) := ⟨rfl, rfl, rfl, by decide +kernel, rfl, by decide +kernel, by decide +kernel⟩
abbrev sSec : Stmt := inClass (top 24) 9
theorem scSec : FnScope ["self", "sector"] ["self", "sector"] (defScope sSec) := ⟨rfl, rfl, rfl, by decide +kernel, rfl, by decide +kernel, by decide +kernel⟩
abbrev sBeg : Stmt := inClass (top 24) 10
theorem scBeg : FnScope ["self"] ["self"] (defScope sBeg) := ⟨rfl, rfl, rfl, by decide +kernel, rfl, by decide +kernel, by decide +kernel⟩
abbrev sSet : Stmt := inClass (top 24) 11
theorem scSet : FnScope ["self", "choices", "sector", "words", "many"] ["self", "choices"] (defScope sSet) := ⟨rfl, rfl, rfl, by decide +kernel, rfl, by decide +kernel, by decide +kernel⟩
structure Txt (mg : Str → Option Value) (K : PySem.W.Frag) (C : Addr) : Prop where
  len : mg "len" = none
  range : mg "range" = none
  tuple : mg "tuple" = none
  list : mg "list" = none
  dict : mg "dict" = none
  isinstance : mg "isinstance" = none
  zip : mg "zip" = none
  abs : mg "abs" = none
  int : mg "int" = none
  bool : mg "bool" = none
  min : mg "min" = none
  all : mg "all" = none
  max : mg "max" = none
  enumerate : mg "enumerate" = none
  gMIN_BLOCKS : ∃ t, mg "MIN_BLOCKS" = some (.int 96 t)
  gMAX_BLOCKS : ∃ t, mg "MAX_BLOCKS" = some (.int 256 t)
  gSECTOR_WORDS : ∃ t, mg "SECTOR_WORDS" = some (.int 8 t)
  gBLOCK_SECTORS : ∃ t, mg "BLOCK_SECTORS" = some (.int 4 t)
  cl : Cls K C
  nb : NoAttr K C "blocks"
  nk : NoAttr K C "_kept"
  ns : NoAttr K C "_shown"
  nw : NoAttr K C "_writes"
  np : NoAttr K C "_powered"
  nf : NoAttr K C "_before_failure"
  mgC : mg "Disk" = some (.ref C)
/-! ### values of a known kind -/
inductive Kd (H : Hp) : V → String → Prop
  | non : Kd H .non "NoneType"
  | bl (b : Bool) : Kd H (.bl b) "bool"
  | int (i : Int) : Kd H (.int i) "int"
  | str (z : Str) : Kd H (.str z) "str"
  | lst {a : Addr} {xs : List V} (h : H a = some (.lst xs)) : Kd H (.ref a) "list"
  | tup {a : Addr} {xs : List V} (h : H a = some (.tup xs)) : Kd H (.ref a) "tuple"
theorem Kd.mono {H H' : Hp} {v : V} {n : String} (e : Ex H H') : Kd H v n → Kd H' v n
  | .non => .non
  | .bl b => .bl b
  | .int i => .int i
  | .str z => .str z
  | .lst h => .lst (e _ _ h)
  | .tup h => .tup (e _ _ h)
theorem Kd.ty {K : PySem.W.Frag} {H : Hp} {v : V} {n : String} : Kd H v n → TyOf K H v (.type n)
  | .non => .non
  | .bl b => .bl b
  | .int i => .int i
  | .str z => .str z
  | .lst h => .lst h
  | .tup h => .tup h
theorem Kd.no {H : Hp} {v : V} {n : String} (k : Kd H v n) : ∀ a C dx fs, H a = some (.ins C dx fs) → v ≠ .ref a := fun a C dx fs h e => by
  cases k with
  | lst h2 =>
    cases e
    rw [h] at h2
    cases h2
  | tup h2 =>
    cases e
    rw [h] at h2
    cases h2
  | _ => cases e
def wd : V → Bool
  | .int i => decide (0 ≤ i)
  | _ => false
/-- isinstance(v, int), isinstance(v, bool) -/
def kInt (n : String) : Bool := n == "int" || n == "bool"
theorem kd_int {K : PySem.W.Frag} {H : Hp} {v : V} {n : String} (k : Kd H v n) : PySem.W.kitOne K (.type n) (.type "int") = some (kInt n) := by
  cases k <;> exact kit_ty rfl
theorem kd_bool {K : PySem.W.Frag} {H : Hp} {v : V} {n : String} (k : Kd H v n) : PySem.W.kitOne K (.type n) (.type "bool") = some (n == "bool") := by
  cases k <;> exact kit_ty rfl
theorem kd_list {K : PySem.W.Frag} {H : Hp} {v : V} {n : String} (k : Kd H v n) : PySem.W.kitOne K (.type n) (.type "list") = some (n == "list") := by
  cases k <;> exact kit_ty rfl
theorem kd_tuple {K : PySem.W.Frag} {H : Hp} {v : V} {n : String} (k : Kd H v n) : PySem.W.kitOne K (.type n) (.type "tuple") = some (n == "tuple") := by
  cases k <;> exact kit_ty rfl
theorem kd_str {K : PySem.W.Frag} {H : Hp} {v : V} {n : String} (k : Kd H v n) : PySem.W.kitOne K (.type n) (.type "str") = some (n == "str") := by
  cases k <;> exact kit_ty rfl
section
variable {K : PySem.W.Frag} {σ : L2.St} {H : Hp} {ta tb : TE} {v : V}
theorem ev_isk {n m : String} {b : Bool} (h : Ev ta σ H v) (hn : Ev tb σ H (.ty m)) (k : Kd H v n) (hk : PySem.W.kitOne K (.type n) (.type m) = some b) : Ev (tCB (rIsi K) (tCons ta (tCons tb tNil))) σ H (.bl b) := ev_isi h hn (fun H1 e => .base (k.mono e).ty) hk
end
def spIw : Sp := fun vs H Q _ => ∃ (v : V) (n : String), vs = [v] ∧ Kd H v n ∧ RetV (.bl (wd v)) H Q
theorem sv_iw {v : V} {n : String} {H : Hp} (k : Kd H v n) : SpV spIw [v] H (.bl (wd v)) := fun H1 e Q q E => ⟨v, n, rfl, k.mono e, q⟩

section
variable {P : Program} {w : World} {K : PySem.W.Frag} {mg : Str → Option Value} {base : Heap} {C : Addr}
theorem ok_iw {f : Addr} {fd : FuncData} (F : Fun K "is_word" "is_word" sIw f fd) (T : Txt mg K C) : FnOk P w K mg base CX0 1 f fd ["value"] spIw := by
  refine F.ok scIw (fun vs H Q E h => ?_) (fun cdv A outer s H vs Q E hr h => ?_)
  · obtain ⟨v, n, rfl, _⟩ := h
    rfl
  · obtain ⟨v, n, rfl, k, q⟩ := h
    refine ⟨_, (pss_one (ps_ret (pe_and (pe_callB call_isi (by rfl) T.isinstance (by decide +kernel) (pa_cons (pv 0) (pa_cons (pe_bltn (v := .ty "int") (u := .type "int") (by rfl) T.int (by decide +kernel) rfl) pa_nil))) (pe_and (pe_not (pe_callB call_isi (by rfl) T.isinstance (by decide +kernel) (pa_cons (pv 0) (pa_cons (pe_bltn (v := .ty "bool") (u := .type "bool") (by rfl) T.bool (by decide +kernel) rfl) pa_nil)))) (pe_one (pe_cmpR op_ge (pv 0) pe_int (nomark _))))))), ?_⟩
    have i1 := ev_isk (K := K) (σ := [some v]) (ta := tVar 0) (tb := tC (.ty "int")) (ev_var rfl) ev_c k (kd_int k)
    have i2 := ev_isk (K := K) (σ := [some v]) (ta := tVar 0) (tb := tC (.ty "bool")) (ev_var rfl) ev_c k (kd_bool k)
    cases k with
    | int i => exact s_ret (ev_is (ev_andV i1 (fun _ => ev_andV (ev_notV i2) (fun _ => ev_op (ev_var rfl) ev_c rv_I0))) rfl) fun H1 e1 => q H1 e1
    | bl b => exact s_ret (ev_is (ev_andV (b := false) i1 (fun _ => ev_andV (b := false) (ev_notV i2) (fun h => by cases h))) rfl) fun H1 e1 => q H1 e1
    | non => exact s_ret (ev_is (ev_andV (b := false) i1 (fun h => by cases h)) rfl) fun H1 e1 => q H1 e1
    | str z => exact s_ret (ev_is (ev_andV (b := false) i1 (fun h => by cases h)) rfl) fun H1 e1 => q H1 e1
    | lst h => exact s_ret (ev_is (ev_andV (b := false) i1 (fun h => by cases h)) rfl) fun H1 e1 => q H1 e1
    | tup h => exact s_ret (ev_is (ev_andV (b := false) i1 (fun h => by cases h)) rfl) fun H1 e1 => q H1 e1
/-- is_word(x) in an element of a generator expression -/
theorem qv_iw {X : Cx} {σ : L2.St} {H : Hp} {Pt : Addr} {scope : Scope} {x : Str} {u : Value} {v : V} {n : String} {a : Expr} {pos p : Pos} {f : Addr} {fd : FuncData} {j : Nat} (hr : Room j X.A) (T : Txt X.mg X.K C) (F : Fun X.K "is_word" "is_word" sIw f fd) (bI : Binds X.K fd ["value"] []) (gI : X.mg "is_word" = some (.ref f)) (hT : Tab H Pt) (k : Kd H v n)
    (hk : scope.kind = .function) (hl : scope.names.lookup ("is_word" : Str) = some .globalImplicit) (ha : QV X σ H Pt scope x u a v) (hs : ∀ env, starEach [a] env = (false, eval a env) :: starEach [] env := by intro _; rfl) : QV X σ H Pt scope x u (.Call (.Name "is_word" p) [a] [] pos) (.bl (wd v)) := by
  refine qv_call1 hr hk hl gI F rfl scIw rfl bI ha (fun A0 r hr0 => ?_) hs (by decide)
  have kk := k
  have b1 := kd_int (K := X.K) k
  have b2 := kd_bool (K := X.K) k
  have ty := k.ty (K := X.K)
  have no := k.no
  cases k with
  | int i => exact qv_is (qv_and (qv_blt2 rfl rfl T.isinstance (by decide +kernel) (qv_x rfl rfl hr0) (qv_blt (z := .ty "int") (r := .type "int") rfl rfl T.int (by decide +kernel) rfl) (qr_isi hT ty no b1)) (fun _ => qv_and (qv_not (qv_blt2 rfl rfl T.isinstance (by decide +kernel) (qv_x rfl rfl hr0) (qv_blt (z := .ty "bool") (r := .type "bool") rfl rfl T.bool (by decide +kernel) rfl) (qr_isi hT ty no b2))) (fun _ => qv_one (qv_cmp qr_ge_int (qv_x rfl rfl hr0) qv_int (nomark _))))) rfl
  | bl b => exact qv_is (qv_and (d := false) (qv_blt2 rfl rfl T.isinstance (by decide +kernel) (qv_x rfl rfl hr0) (qv_blt (z := .ty "int") (r := .type "int") rfl rfl T.int (by decide +kernel) rfl) (qr_isi hT ty no b1)) (fun _ => qv_is (qv_and (d := false) (qv_not (qv_blt2 rfl rfl T.isinstance (by decide +kernel) (qv_x rfl rfl hr0) (qv_blt (z := .ty "bool") (r := .type "bool") rfl rfl T.bool (by decide +kernel) rfl) (qr_isi hT ty no b2))) (fun h => by cases h)) (show _ = V.bl false from rfl))) rfl
  | non => exact qv_is (qv_and (d := false) (qv_blt2 rfl rfl T.isinstance (by decide +kernel) (qv_x rfl rfl hr0) (qv_blt (z := .ty "int") (r := .type "int") rfl rfl T.int (by decide +kernel) rfl) (qr_isi hT ty no b1)) (fun h => by cases h)) rfl
  | str z => exact qv_is (qv_and (d := false) (qv_blt2 rfl rfl T.isinstance (by decide +kernel) (qv_x rfl rfl hr0) (qv_blt (z := .ty "int") (r := .type "int") rfl rfl T.int (by decide +kernel) rfl) (qr_isi hT ty no b1)) (fun h => by cases h)) rfl
  | lst h => exact qv_is (qv_and (d := false) (qv_blt2 rfl rfl T.isinstance (by decide +kernel) (qv_x rfl rfl hr0) (qv_blt (z := .ty "int") (r := .type "int") rfl rfl T.int (by decide +kernel) rfl) (qr_isi hT ty no b1)) (fun h => by cases h)) rfl
  | tup h => exact qv_is (qv_and (d := false) (qv_blt2 rfl rfl T.isinstance (by decide +kernel) (qv_x rfl rfl hr0) (qv_blt (z := .ty "int") (r := .type "int") rfl rfl T.int (by decide +kernel) rfl) (qr_isi hT ty no b1)) (fun h => by cases h)) rfl
/-- are_words of a list -/
def spAre (Pt : Addr) : Sp := fun vs H Q _ => Tab H Pt ∧ ∃ (a : Addr) (xs : List V) (many : Int), vs = [.ref a, .int many] ∧ H a = some (.lst xs) ∧ (∀ x ∈ xs, ∃ n, Kd H x n) ∧ RetV (.bl (decide ((xs.length : Int) = many) && xs.all wd)) H Q
theorem ok_are {f c Pt fI : Addr} {fd fdI : FuncData} (F : FunC K "are_words" "are_words" sAre f fd c) (TB : LamX.TabB base mg c Pt) (T : Txt mg K C) (FI : Fun K "is_word" "is_word" sIw fI fdI) (bI : Binds K fdI ["value"] []) (gI : mg "is_word" = some (.ref fI)) : FnOk P w K mg base CX0 1 f fd ["values", "many"] (spAre Pt) := by
  refine F.ok scAre (fun vs H Q E h => ?_) (fun A outer s H vs Q E hr h => ?_)
  · obtain ⟨_, a, xs, m, rfl, _⟩ := h
    rfl
  · refine ⟨_, (pss_cons (ps_if (PW.pt (pw_or (pt_not (pt_val (pe_callB call_isi (by rfl) T.isinstance (by decide +kernel) (pa_cons (pv 0) (pa_cons (pe_bltn (v := .ty "list") (u := .type "list") (by rfl) T.list (by decide +kernel) rfl) pa_nil))))) (pw_or1 (pt_cmpR op_ne (pe_callB call_len_seq (by rfl) T.len (by decide +kernel) (pa_cons (pv 0) pa_nil)) (pv 1) (nomark _))))) (pss_one (ps_ret pe_bl)) pss_nil)
      (pss_one (ps_ret (pe_all hr (by rfl) T.all (by decide +kernel) TB rfl ⟨rfl, rfl, by decide +kernel, rfl, rfl, fun y hy e => absurd e ((by decide +kernel : ∀ y ∈ _, y.2 ≠ NameKind.free) y hy)⟩ (pv 0) (fun _ => rfl))))), ?_⟩
    obtain ⟨hT, a, xs, m, rfl, hS, hk, q⟩ := h
    refine q_when (b := !decide ((xs.length : Int) = m)) (et_is (et_or (et_not (et_B (ev_isk (ev_var rfl) ev_c (.lst hS) (kd_list (.lst hS))))) (fun _ => et_test (ev_op (ev_len (ev_var rfl) (sq_of hS)) (ev_var rfl) (rv_ne rfl)))) (by simp)) (fun hb H1 e1 => ?_) (fun hb H1 e1 => ?_)
    · have h0 : decide ((xs.length : Int) = m) = false := by simpa using hb
      rw [h0] at q
      exact s_ret ev_c fun H2 e2 => q H2 (e1.trans e2)
    · have h0 : decide ((xs.length : Int) = m) = true := by simpa using hb
      rw [h0] at q
      refine s_ret (ev_is (ev_gen (f := fun i => wd (xs.getD i .non)) (xs := fun i => xs.getD i .non) (n := xs.length) (ev_var rfl) (hT.mono e1) (fun H2 e2 => .inl ⟨a, xs, rfl, sq_of ((e1.trans e2) _ _ hS), rfl, fun i => rfl⟩) (fun H2 e2 i u hi hu => ?_)) ?_) fun H2 e2 => q H2 (e1.trans e2)
      · have hx : xs.getD i .non ∈ xs := by
          rw [List.getD_eq_getElem?_getD, List.getElem?_eq_getElem hi]
          exact List.getElem_mem hi
        obtain ⟨n, kn⟩ := hk _ hx
        exact qv_iw hr T FI bI gI (hT.mono (e1.trans e2)) (kn.mono (e1.trans e2)) rfl rfl (qv_x rfl rfl hu)
      · rw [allF_list xs .non wd]
        rfl
end

/-! ### a disk: what lasts, what waits, the power -/
def stepA (f : Nat → List Int) (w : Nat × List Int) (c : Nat) : Nat → List Int := fset f w.1 (w.2.take c ++ (f w.1).drop c)
def aftN (f : Nat → List Int) (ws : List (Nat × List Int)) (c : Nat → Nat) : Nat → (Nat → List Int)
  | 0 => f
  | i + 1 => stepA (aftN f ws c i) (ws.getD i (0, [])) (c i)
def due (f : Nat → List Int) (ws : List (Nat × List Int)) : Nat → List Int := ws.foldl (fun g w => fset g w.1 w.2) f
theorem due_snoc (f : Nat → List Int) (ws : List (Nat × List Int)) (w : Nat × List Int) : due f (ws ++ [w]) = fset (due f ws) w.1 w.2 := by
  unfold due
  rw [List.foldl_append]
  rfl
theorem fset_same (f : Nat → List Int) (s : Nat) : fset f s (f s) = f := funext fun x => by
  unfold fset
  split
  · rename_i h
    rw [h]
  · rfl
theorem step0 (f : Nat → List Int) (w : Nat × List Int) : stepA f w 0 = f := by
  unfold stepA
  rw [List.take_zero, List.drop_zero, List.nil_append, fset_same]
theorem aft_stop {f : Nat → List Int} {ws : List (Nat × List Int)} {c : Nat → Nat} {i : Nat} (h : ∀ j, i ≤ j → c j = 0) : ∀ k, aftN f ws c (i + k) = aftN f ws c i
  | 0 => rfl
  | k + 1 => by
    show stepA (aftN f ws c (i + k)) _ (c (i + k)) = _
    rw [h (i + k) (by omega), step0, aft_stop h k]
theorem aft_cong {f : Nat → List Int} {ws : List (Nat × List Int)} {c c' : Nat → Nat} : ∀ {i : Nat}, (∀ j, j < i → c j = c' j) → aftN f ws c i = aftN f ws c' i
  | 0, _ => rfl
  | i + 1, h => by
    show stepA (aftN f ws c i) _ (c i) = stepA (aftN f ws c' i) _ (c' i)
    rw [aft_cong fun j hj => h j (by omega), h i (by omega)]
theorem fset_len {f : Nat → List Int} {s : Nat} {v : List Int} (hf : ∀ s, (f s).length = 8) (hv : v.length = 8) : ∀ x, (fset f s v x).length = 8 := fun x => by
  unfold fset
  split
  · exact hv
  · exact hf x
theorem step_len {f : Nat → List Int} {w : Nat × List Int} {c : Nat} (hf : ∀ s, (f s).length = 8) (hw : w.2.length = 8) : ∀ x, (stepA f w c x).length = 8 := fset_len hf (by
  rw [List.length_append, List.length_take, List.length_drop, hw, hf]
  omega)
theorem getD_in {α : Type} {l : List α} {i : Nat} {d x : α} (h : l[i]? = some x) : l.getD i d = x := by
  rw [List.getD_eq_getElem?_getD, h]
  rfl
theorem aft_len {f : Nat → List Int} {ws : List (Nat × List Int)} {c : Nat → Nat} (hf : ∀ s, (f s).length = 8) (hw : ∀ w ∈ ws, w.2.length = 8) : ∀ i, i ≤ ws.length → ∀ x, (aftN f ws c i x).length = 8
  | 0, _ => hf
  | i + 1, h => step_len (aft_len hf hw i (by omega)) (by
    rw [getD_in (List.getElem?_eq_getElem (show i < ws.length by omega))]
    exact hw _ (List.getElem_mem _))
theorem due_len {f : Nat → List Int} (hf : ∀ s, (f s).length = 8) : ∀ {ws : List (Nat × List Int)}, (∀ w ∈ ws, w.2.length = 8) → ∀ x, (due f ws x).length = 8 := by
  intro ws
  induction ws generalizing f with
  | nil => exact fun _ => hf
  | cons w r ih => exact fun h => ih (f := fset f w.1 w.2) (fset_len hf (h w List.mem_cons_self)) fun v hv => h v (List.mem_cons_of_mem _ hv)
structure Dk where
  kept : Nat → List Int
  ws : List (Nat × List Int)
  pw : Bool
  bf : Option Nat
def bfV : Option Nat → V
  | none => .non
  | some k => .int (k : Int)
def dfl (n : Nat) (ka sa wa : Addr) (pw : Bool) (bf : Option Nat) : List (Str × V) := [(("blocks" : Str), .int (n : Int)), (("_kept" : Str), .ref ka), (("_shown" : Str), .ref sa), (("_writes" : Str), .ref wa), (("_powered" : Str), .bl pw), (("_before_failure" : Str), bfV bf)]
section
variable {n : Nat} {ka sa wa ka' sa' wa' : Addr} {pw pw' : Bool} {bf bf' : Option Nat}
theorem d_b : (dfl n ka sa wa pw bf).lookup ("blocks" : Str) = some (V.int (n : Int)) := rfl
theorem d_k : (dfl n ka sa wa pw bf).lookup ("_kept" : Str) = some (V.ref ka) := rfl
theorem d_s : (dfl n ka sa wa pw bf).lookup ("_shown" : Str) = some (V.ref sa) := rfl
theorem d_w : (dfl n ka sa wa pw bf).lookup ("_writes" : Str) = some (V.ref wa) := rfl
theorem d_p : (dfl n ka sa wa pw bf).lookup ("_powered" : Str) = some (V.bl pw) := rfl
theorem d_f : (dfl n ka sa wa pw bf).lookup ("_before_failure" : Str) = some (bfV bf) := rfl
theorem d_ps : putF "_shown" (V.ref sa') (dfl n ka sa wa pw bf) = dfl n ka sa' wa pw bf := rfl
theorem d_pw : putF "_writes" (V.ref wa') (dfl n ka sa wa pw bf) = dfl n ka sa wa' pw bf := rfl
theorem d_pp : putF "_powered" (V.bl pw') (dfl n ka sa wa pw bf) = dfl n ka sa wa pw' bf := rfl
theorem d_pf : putF "_before_failure" (bfV bf') (dfl n ka sa wa pw bf) = dfl n ka sa wa pw bf' := rfl
theorem d_no {m : Str} (h : m ≠ "blocks" ∧ m ≠ "_kept" ∧ m ≠ "_shown" ∧ m ≠ "_writes" ∧ m ≠ "_powered" ∧ m ≠ "_before_failure") : (dfl n ka sa wa pw bf).lookup m = Option.none := by
  unfold dfl
  rw [List.lookup_cons, beq_false_of_ne h.1, List.lookup_cons, beq_false_of_ne h.2.1, List.lookup_cons, beq_false_of_ne h.2.2.1, List.lookup_cons, beq_false_of_ne h.2.2.2.1, List.lookup_cons, beq_false_of_ne h.2.2.2.2.1, List.lookup_cons, beq_false_of_ne h.2.2.2.2.2]
  rfl
end
def Rows (G H : Hp) (la : Addr) (m : Nat) (f : Nat → List Int) : Prop := ∃ ks : List Addr, H la = some (.lst (ks.map V.ref)) ∧ ks.length = m ∧ ∀ (i : Nat) (a : Addr), ks[i]? = some a → G a = some (.lst ((f i).map V.int))
def Wr (G H : Hp) (la : Addr) (ws : List (Nat × List Int)) : Prop := ∃ ts : List Addr, H la = some (.lst (ts.map V.ref)) ∧ ts.length = ws.length ∧ ∀ (i : Nat) (t : Addr) (w : Nat × List Int), ts[i]? = some t → ws[i]? = some w → ∃ l, G t = some (.tup [.int (w.1 : Int), .ref l]) ∧ G l = some (.lst (w.2.map V.int))
structure DK (C : Addr) (G H : Hp) (p ka sa wa : Addr) (n : Nat) (d : Dk) : Prop where
  g : Ex G H
  gp : G p = none
  gk : G ka = none
  gs : G sa = none
  gw : G wa = none
  nks : ka ≠ sa
  nkw : ka ≠ wa
  nsw : sa ≠ wa
  o : ∃ dx, H p = some (.ins C dx (dfl n ka sa wa d.pw d.bf))
  k : Rows G H ka (4 * n) d.kept
  s : Rows G H sa (4 * n) (due d.kept d.ws)
  w : Wr G H wa d.ws
  n0 : 96 ≤ n
  n1 : n ≤ 256
  wl : d.ws.length ≤ 100
  ok : ∀ w ∈ d.ws, w.1 < 4 * n ∧ w.2.length = 8
  kz : ∀ s, (d.kept s).length = 8
/-- from (G, H) to (G', H1): what was frozen stays so, what was not does not become so, nothing goes away -/
structure St (G H G' H1 : Hp) : Prop where
  g : Ex G G'
  n : ∀ a, H a ≠ none → G a = none → G' a = none
  a : ∀ a, H a ≠ none → H1 a ≠ none
section
variable {C : Addr} {G G' H H1 H2 : Hp} {la p ka sa wa : Addr} {n m : Nat} {d : Dk} {f : Nat → List Int} {ws : List (Nat × List Int)}
theorem Rows.ex (r : Rows G H la m f) (g : Ex G G') (e : Ex H H1) : Rows G' H1 la m f := by
  obtain ⟨ks, h, hl, hs⟩ := r
  exact ⟨ks, e _ _ h, hl, fun i a ha => g _ _ (hs i a ha)⟩
theorem Rows.at (r : Rows G H la m f) (g : Ex G G') (e : H1 la = H la) : Rows G' H1 la m f := by
  obtain ⟨ks, h, hl, hs⟩ := r
  exact ⟨ks, by rw [e]; exact h, hl, fun i a ha => g _ _ (hs i a ha)⟩
theorem Wr.ex (r : Wr G H la ws) (g : Ex G G') (e : Ex H H1) : Wr G' H1 la ws := by
  obtain ⟨ts, h, hl, hs⟩ := r
  exact ⟨ts, e _ _ h, hl, fun i t w ht hw => let ⟨l, a, b⟩ := hs i t w ht hw; ⟨l, g _ _ a, g _ _ b⟩⟩
theorem Wr.at (r : Wr G H la ws) (g : Ex G G') (e : H1 la = H la) : Wr G' H1 la ws := by
  obtain ⟨ts, h, hl, hs⟩ := r
  exact ⟨ts, by rw [e]; exact h, hl, fun i t w ht hw => let ⟨l, a, b⟩ := hs i t w ht hw; ⟨l, g _ _ a, g _ _ b⟩⟩
theorem DK.ex (D : DK C G H p ka sa wa n d) (e : Ex H H1) : DK C G H1 p ka sa wa n d :=
  ⟨D.g.trans e, D.gp, D.gk, D.gs, D.gw, D.nks, D.nkw, D.nsw, let ⟨dx, h⟩ := D.o; ⟨dx, e _ _ h⟩, D.k.ex (Ex.refl _) e, D.s.ex (Ex.refl _) e, D.w.ex (Ex.refl _) e, D.n0, D.n1, D.wl, D.ok, D.kz⟩
theorem St.refl (G H : Hp) : St G H G H := ⟨Ex.refl _, fun _ _ h => h, fun _ h => h⟩
theorem St.ex (e : Ex H H1) : St G H G H1 := ⟨Ex.refl _, fun _ _ h => h, fun a h z => h (fresh_back e z)⟩
theorem St.trans {G2 : Hp} (s : St G H G' H1) (t : St G' H1 G2 H2) : St G H G2 H2 := ⟨s.g.trans t.g, fun a h g => t.n a (s.a a h) (s.n a h g), fun a h => t.a a (s.a a h)⟩
theorem DK.np (D : DK C G H p ka sa wa n d) : p ≠ ka ∧ p ≠ sa ∧ p ≠ wa := by
  obtain ⟨dx, h⟩ := D.o
  obtain ⟨_, h1, _⟩ := D.k
  obtain ⟨_, h2, _⟩ := D.s
  obtain ⟨_, h3, _⟩ := D.w
  exact ⟨ne_of h h1 (by intro z; cases z), ne_of h h2 (by intro z; cases z), ne_of h h3 (by intro z; cases z)⟩
theorem DK.al (D : DK C G H p ka sa wa n d) : H p ≠ none ∧ H ka ≠ none ∧ H sa ≠ none ∧ H wa ≠ none := by
  obtain ⟨dx, h⟩ := D.o
  obtain ⟨_, h1, _⟩ := D.k
  obtain ⟨_, h2, _⟩ := D.s
  obtain ⟨_, h3, _⟩ := D.w
  exact ⟨by rw [h]; exact fun z => (by cases z), by rw [h1]; exact fun z => (by cases z), by rw [h2]; exact fun z => (by cases z), by rw [h3]; exact fun z => (by cases z)⟩
theorem DK.joinG (D : DK C G H p ka sa wa n d) (e : Ex H H1) : St G H (grow G H H1 fun _ => False) H1 ∧ DK C (grow G H H1 fun _ => False) H1 p ka sa wa n d := by
  have ge := D.g.trans e
  have gg : Ex G (grow G H H1 fun _ => False) := grow_ex
  obtain ⟨ap, ak, as, aw⟩ := D.al
  exact ⟨⟨gg, fun a h g => grow_no h g, fun a h z => h (fresh_back e z)⟩, grow_sub ge, grow_no ap D.gp, grow_no ak D.gk, grow_no as D.gs, grow_no aw D.gw, D.nks, D.nkw, D.nsw, let ⟨dx, h⟩ := D.o; ⟨dx, e _ _ h⟩, D.k.ex gg e, D.s.ex gg e, D.w.ex gg e, D.n0, D.n1, D.wl, D.ok, D.kz⟩
/-- all that is new since H joins what is frozen -/
theorem DK.join (D : DK C G H p ka sa wa n d) (e : Ex H H1) : ∃ G', St G H G' H1 ∧ DK C G' H1 p ka sa wa n d ∧ ∀ a o, H a = none → H1 a = some o → G' a = some o := by
  have ge := D.g.trans e
  have gg : Ex G (grow G H H1 fun _ => False) := grow_ex
  obtain ⟨ap, ak, as, aw⟩ := D.al
  refine ⟨grow G H H1 fun _ => False, ⟨gg, fun a h g => grow_no h g, fun a h z => h (fresh_back e z)⟩, ?_, fun a o h h1 => grow_new (fresh_back D.g h) h id h1⟩
  exact ⟨grow_sub ge, grow_no ap D.gp, grow_no ak D.gk, grow_no as D.gs, grow_no aw D.gw, D.nks, D.nkw, D.nsw, let ⟨dx, h⟩ := D.o; ⟨dx, e _ _ h⟩, D.k.ex gg e, D.s.ex gg e, D.w.ex gg e, D.n0, D.n1, D.wl, D.ok, D.kz⟩
/-- what is not frozen and no part of the disk may change -/
theorem DK.upd {a : Addr} {o : HO} (D : DK C G H p ka sa wa n d) (ga : G a = none) (h1 : a ≠ p) (h2 : a ≠ ka) (h3 : a ≠ sa) (h4 : a ≠ wa) : DK C G (upd H a o) p ka sa wa n d :=
  ⟨D.g.mut ga, D.gp, D.gk, D.gs, D.gw, D.nks, D.nkw, D.nsw, let ⟨dx, h⟩ := D.o; ⟨dx, by rw [upd_ne h1.symm]; exact h⟩, D.k.at (Ex.refl _) (upd_ne h2.symm), D.s.at (Ex.refl _) (upd_ne h3.symm), D.w.at (Ex.refl _) (upd_ne h4.symm), D.n0, D.n1, D.wl, D.ok, D.kz⟩
theorem St.upd {a : Addr} {o : HO} (s : St G H G' H1) : St G H G' (upd H1 a o) := ⟨s.g, s.n, fun b h z => by
  by_cases e : b = a
  · rw [e, upd_same] at z
    cases z
  · rw [upd_ne e] at z
    exact s.a b h z⟩
end

end K68D

set_option Elab.async false
set_option linter.all false
set_option maxRecDepth 100000
set_option maxHeartbeats 4000000
namespace K68D
open PySem PySem.Spec PyProof.Rows L2 Evl LK LT LG LS LQ LX LO LN LP
def InS (n : Nat) (z : Int) : Prop := 0 ≤ z ∧ z < 4 * (n : Int)
def okW (xs : List V) : Prop := xs.length = 8 ∧ xs.all wd = true
theorem okW_ints : ∀ {xs : List V}, xs.all wd = true → ∃ ns : List Int, xs = ns.map V.int ∧ ∀ z ∈ ns, 0 ≤ z
  | [], _ => ⟨[], rfl, fun z hz => absurd hz List.not_mem_nil⟩
  | x :: r, h => by
    rw [List.all_cons, Bool.and_eq_true] at h
    obtain ⟨ns, e, hn⟩ := okW_ints h.2
    cases x with
    | int i =>
      have h0 : 0 ≤ i := of_decide_eq_true h.1
      exact ⟨i :: ns, by rw [e]; rfl, fun z hz => by
        rcases List.mem_cons.mp hz with rfl | h
        · exact h0
        · exact hn z h⟩
    | _ => cases h.1
theorem ints_wd {ns : List Int} (h : ∀ z ∈ ns, 0 ≤ z) : (ns.map V.int).all wd = true := by
  rw [List.all_eq_true]
  intro x hx
  obtain ⟨z, hz, rfl⟩ := List.mem_map.mp hx
  exact decide_eq_true (h z hz)
theorem kd_ints {H : Hp} (ns : List Int) : ∀ x ∈ ns.map V.int, ∃ n, Kd H x n := fun x hx => by
  obtain ⟨z, hz, rfl⟩ := List.mem_map.mp hx
  exact ⟨_, .int z⟩
def spSize : Sp := fun vs H Q _ => ∃ z : Int, vs = [.int z] ∧ RetV (.bl (decide (0 ≤ z) && (decide (96 ≤ z) && decide (z ≤ 256)))) H Q
/-- a choice of a cut -/
def wc : V → Bool
  | .int i => decide (0 ≤ i) && decide (i ≤ 8)
  | _ => false
def spChs (Pt : Addr) : Sp := fun vs H Q _ => Tab H Pt ∧ ∃ (a : Addr) (xs : List V), vs = [.ref a] ∧ H a = some (.lst xs) ∧ (∀ x ∈ xs, ∃ n, Kd H x n) ∧ RetV (.bl (xs.all wc)) H Q
def spSec (C : Addr) : Sp := fun vs H Q _ => ∃ G p ka sa wa n d z, vs = [.ref p, .int z] ∧ DK C G H p ka sa wa n d ∧ RetV (.bl (decide (0 ≤ z) && decide (z < 4 * (n : Int)))) H Q
def on (d : Dk) : Prop := d.pw = true ∧ d.bf ≠ some 0
def spBeg (C CO : Addr) : Sp := fun vs H Q E => ∃ G p ka sa wa n d, vs = [.ref p] ∧ DK C G H p ka sa wa n d ∧
  (on d → ∀ H1, (∀ a, H a ≠ none → H1 a ≠ none) → (∀ a o, H a = some o → a ≠ p → H1 a = some o) → DK C G H1 p ka sa wa n { d with bf := d.bf.map (· - 1) } → Q .non H1) ∧
  (¬ on d → ∀ H1, (∀ a, H a ≠ none → H1 a ≠ none) → (∀ a o, H a = some o → a ≠ p → H1 a = some o) → DK C G H1 p ka sa wa n { d with pw := false } → E (.ref CO) none H1)
def spRead (C CN CO : Addr) : Sp := fun vs H Q E => ∃ G p ka sa wa n d z, vs = [.ref p, .int z] ∧ DK C G H p ka sa wa n d ∧
  (d.pw = true → ∀ s : Nat, z = (s : Int) → s < 4 * n → RetL ((due d.kept d.ws s).map V.int) H Q) ∧ (d.pw = false → ∀ H', Ex H H' → E (.ref CO) none H') ∧ (d.pw = true → ¬ InS n z → ∀ H', Ex H H' → E (.ref CN) none H')
def spWrite (C CN CO Pt : Addr) : Sp := fun vs H Q E => ∃ G p ka sa wa n d z u xs, vs = [.ref p, .int z, .ref u] ∧ DK C G H p ka sa wa n d ∧ H u = some (.lst xs) ∧ (∀ x ∈ xs, ∃ k, Kd H x k) ∧ Tab G Pt ∧ d.ws.length < 100 ∧ u ≠ p ∧
  (¬ (InS n z ∧ okW xs) → ∀ H', Ex H H' → E (.ref CN) none H') ∧
  (on d → ∀ (s : Nat) (ns : List Int), z = (s : Int) → s < 4 * n → xs = ns.map V.int → ns.length = 8 → (∀ z ∈ ns, 0 ≤ z) → ∀ G' H1, St G H G' H1 → (∀ a o, H a = some o → a ≠ p → a ≠ sa → a ≠ wa → H1 a = some o) → DK C G' H1 p ka sa wa n { d with ws := d.ws ++ [(s, ns)], bf := d.bf.map (· - 1) } → Q .non H1) ∧
  (¬ on d → InS n z ∧ okW xs → ∀ H1, St G H G H1 → (∀ a o, H a = some o → a ≠ p → H1 a = some o) → DK C G H1 p ka sa wa n { d with pw := false } → E (.ref CO) none H1)
section
variable {P : Program} {w : World} {K : PySem.W.Frag} {mg : Str → Option Value} {base : Heap} {C CN CO : Addr}
theorem ok_size {f fW : Addr} {fd fdW : FuncData} (F : Fun K "is_size" "is_size" sSize f fd) (FW : Fun K "is_word" "is_word" sIw fW fdW) (bW : Binds K fdW ["value"] []) (gW : mg "is_word" = some (.ref fW)) (T : Txt mg K C) : FnOk P w K mg base CX0 2 f fd ["blocks"] spSize := by
  have GW : FnOk P w K mg base CX0 1 fW fdW ["value"] spIw := ok_iw FW T
  obtain ⟨_, gMIN_BLOCKS⟩ := T.gMIN_BLOCKS
  obtain ⟨_, gMAX_BLOCKS⟩ := T.gMAX_BLOCKS
  refine F.ok scSize (fun vs H Q E h => ?_) (fun cdv A outer s H vs Q E hr h => ?_)
  · obtain ⟨z, rfl, _⟩ := h
    rfl
  · obtain ⟨z, rfl, q⟩ := h
    refine ⟨_, (pss_one (ps_ret (pe_and (pe_call GW (hr.mono (by decide)) (by rfl) gW FW.kp bW .nil pass0 (pa_cons (pv 0) pa_nil)) (pe_one (pe_chain op_le op_le (pe_glob (v := .int 96) rfl gMIN_BLOCKS ⟨_, rfl⟩) (pv 0) (pe_glob (v := .int 256) rfl gMAX_BLOCKS ⟨_, rfl⟩)))))), ?_⟩
    exact s_ret (ev_andV (ev_call (vs := [.int z]) (ea_cons (ev_var rfl) ea_nil) (sv_iw (.int z))) (fun _ => ev_chain ev_c (ev_var rfl) ev_c)) q
theorem ok_chs {f c Pt fI : Addr} {fd fdI : FuncData} (F : FunC K "are_choices" "are_choices" sChs f fd c) (TB : LamX.TabB base mg c Pt) (T : Txt mg K C) (FI : Fun K "is_word" "is_word" sIw fI fdI) (bI : Binds K fdI ["value"] []) (gI : mg "is_word" = some (.ref fI)) : FnOk P w K mg base CX0 1 f fd ["choices"] (spChs Pt) := by
  obtain ⟨_, gSECTOR_WORDS⟩ := T.gSECTOR_WORDS
  refine F.ok scChs (fun vs H Q E h => ?_) (fun A outer s H vs Q E hr h => ?_)
  · obtain ⟨_, a, xs, rfl, _⟩ := h
    rfl
  · refine ⟨_, (pss_cons (ps_if (pt_not (pt_val (pe_callB call_isi (by rfl) T.isinstance (by decide +kernel) (pa_cons (pv 0) (pa_cons (pe_bltn (v := .ty "list") (u := .type "list") (by rfl) T.list (by decide +kernel) rfl) pa_nil))))) (pss_one (ps_ret pe_bl)) pss_nil)
      (pss_one (ps_ret (pe_all hr (by rfl) T.all (by decide +kernel) TB rfl ⟨rfl, rfl, by decide +kernel, rfl, rfl, fun y hy e => absurd e ((by decide +kernel : ∀ y ∈ _, y.2 ≠ NameKind.free) y hy)⟩ (pv 0) (fun _ => rfl))))), ?_⟩
    obtain ⟨hT, a, xs, rfl, hS, hk, q⟩ := h
    refine q_when (b := false) (et_is (et_not (et_B (ev_isk (ev_var rfl) ev_c (.lst hS) (kd_list (.lst hS))))) (by rfl)) (fun h => by cases h) (fun hb H1 e1 => ?_)
    refine s_ret (ev_is (ev_gen (f := fun i => wc (xs.getD i .non)) (xs := fun i => xs.getD i .non) (n := xs.length) (ev_var rfl) (hT.mono e1) (fun H2 e2 => .inl ⟨a, xs, rfl, sq_of ((e1.trans e2) _ _ hS), rfl, fun i => rfl⟩) (fun H2 e2 i u hi hu => ?_)) ?_) fun H2 e2 => q H2 (e1.trans e2)
    · have hx : xs.getD i .non ∈ xs := by
        rw [List.getD_eq_getElem?_getD, List.getElem?_eq_getElem hi]
        exact List.getElem_mem hi
      obtain ⟨n, kn⟩ := hk _ hx
      generalize xs.getD i .non = x at hu kn
      have kk := kn.mono (e1.trans e2)
      cases kn with
      | int i => exact qv_is (qv_and (qv_iw hr T FI bI gI (hT.mono (e1.trans e2)) kk rfl rfl (qv_x rfl rfl hu)) (fun _ => qv_one (qv_cmp qr_le_int (qv_x rfl rfl hu) (qv_glob rfl rfl gSECTOR_WORDS ⟨_, rfl⟩) (nomark _)))) rfl
      | _ => exact qv_is (qv_and (d := false) (qv_iw hr T FI bI gI (hT.mono (e1.trans e2)) kk rfl rfl (qv_x rfl rfl hu)) (fun h => by cases h)) rfl
    · rw [allF_list xs .non wc]
theorem ok_sec {f fW : Addr} {fd fdW : FuncData} (F : Fun K "_is_sector" "Disk._is_sector" sSec f fd) (FW : Fun K "is_word" "is_word" sIw fW fdW) (bW : Binds K fdW ["value"] []) (gW : mg "is_word" = some (.ref fW)) (T : Txt mg K C) : FnOk P w K mg base CX0 2 f fd ["self", "sector"] (spSec C) := by
  have GW : FnOk P w K mg base CX0 1 fW fdW ["value"] spIw := ok_iw FW T
  obtain ⟨_, gBLOCK_SECTORS⟩ := T.gBLOCK_SECTORS
  refine F.ok scSec (fun vs H Q E h => ?_) (fun cdv A outer s H vs Q E hr h => ?_)
  · obtain ⟨G, p, ka, sa, wa, n, d, z, rfl, _⟩ := h
    rfl
  · obtain ⟨G, p, ka, sa, wa, n, d, z, rfl, D, q⟩ := h
    obtain ⟨dx, ho⟩ := D.o
    refine ⟨_, (pss_one (ps_ret (pe_and (pe_call GW (hr.mono (by decide)) (by rfl) gW FW.kp bW .nil pass0 (pa_cons (pv 1) pa_nil)) (pe_one (pe_cmpR op_lt (pv 1) (pe_op op_mul (pe_glob (v := .int 4) rfl gBLOCK_SECTORS ⟨_, rfl⟩) (pe_fld (pv 0) rfl)) (nomark _)))))), ?_⟩
    exact s_ret (ev_andV (ev_call (vs := [.int z]) (ea_cons (ev_var rfl) ea_nil) (sv_iw (.int z))) (fun _ => ev_op (ev_var rfl) (ev_op ev_c (ev_fld (ev_var rfl) ho T.cl T.nb d_b) (rv_I (.inl ⟨by decide, by decide⟩))) rv_I0)) q
theorem sv_sec {G H : Hp} {p ka sa wa : Addr} {n : Nat} {d : Dk} {z : Int} (D : DK C G H p ka sa wa n d) : SpV (spSec C) [.ref p, .int z] H (.bl (decide (0 ≤ z) && decide (z < 4 * (n : Int)))) := fun H1 e1 Q q E => ⟨G, p, ka, sa, wa, n, d, z, rfl, D.ex e1, q⟩
theorem bf_min (k : Nat) : bfV ((some (k + 1)).map (· - 1)) = .int (((k + 1 : Nat) : Int) - 1) := by
  exact congrArg V.int (show ((k + 1 - 1 : Nat) : Int) = ((k + 1 : Nat) : Int) - 1 by omega)
theorem ok_beg {f : Addr} {fd : FuncData} (F : Fun K "_begin_operation" "Disk._begin_operation" sBeg f fd) (T : Txt mg K C) (XO : Xc K mg "PowerOff" CO) : FnOk P w K mg base (L2.CX P w) 1 f fd ["self"] (spBeg C CO) := by
  refine F.okX scBeg (fun vs H Q E h => ?_) (fun cdv A outer s H vs Q E hr h => ?_)
  · obtain ⟨G, p, ka, sa, wa, n, d, rfl, _⟩ := h
    rfl
  · obtain ⟨G, p, ka, sa, wa, n, d, rfl, D, q, qE⟩ := h
    obtain ⟨dx, ho⟩ := D.o
    refine ⟨_, (pss_cut (ps_if (pt_cmpR op_eq (pe_fld (pv 0) rfl) pe_int (nomark _)) (pss_one (ps_fld (pv 0) pe_bl rfl)) pss_nil)
      (pss_cons (ps_if (pt_not (pt_val (pe_fld (pv 0) rfl))) (pss_one (ps_raise0 rfl XO (takes_of rfl rfl rfl rfl) (by rfl))) pss_nil)
      (pss_one (ps_if (pt_cmpR op_notN (pe_fld (pv 0) rfl) pe_non (nomark _)) (pss_one (ps_fldaug (pv 0) pe_int in_sub)) pss_nil)))), ?_⟩
    have kp : ∀ {H1 : Hp} {o : HO}, Ex H H1 → (∀ a, H a ≠ none → (upd H1 p o) a ≠ none) ∧ ∀ a u, H a = some u → a ≠ p → (upd H1 p o) a = some u := fun e => ⟨fun a h z => by
      by_cases ha : a = p
      · rw [ha, upd_same] at z
        cases z
      · rw [upd_ne ha] at z
        exact h (fresh_back e z), fun a u h ha => by
        rw [upd_ne ha]
        exact e _ _ h⟩
    have mk : ∀ {H1 : Hp} {pw : Bool} {bf : Option Nat}, Ex H H1 → DK C G (upd H1 p (.ins C dx (dfl n ka sa wa pw bf))) p ka sa wa n { d with pw := pw, bf := bf } := fun e => by
      have D1 := D.ex e
      obtain ⟨n1, n2, n3⟩ := D.np
      exact ⟨D1.g.mut D.gp, D.gp, D.gk, D.gs, D.gw, D.nks, D.nkw, D.nsw, ⟨dx, upd_same⟩, D1.k.at (Ex.refl _) (upd_ne n1.symm), D1.s.at (Ex.refl _) (upd_ne n2.symm), D1.w.at (Ex.refl _) (upd_ne n3.symm), D.n0, D.n1, D.wl, D.ok, D.kz⟩
    have sc0 : scal (bfV d.bf) (.int 0) = true := by cases d.bf <;> rfl
    by_cases h0 : d.bf = some 0
    · have hno : ¬ on d := fun h => h.2 h0
      refine q_cut (M := fun σ2 H2 => σ2 = [some (.ref p)] ∧ DK C G H2 p ka sa wa n { d with pw := false } ∧ (∀ a, H a ≠ none → H2 a ≠ none) ∧ ∀ a u, H a = some u → a ≠ p → H2 a = some u) ?_ ?_
      · refine s_when (b := true) (et_is (et_test (ev_op (ev_fld (ev_var rfl) ho T.cl T.nf d_f) ev_c (rv_eq sc0))) (by rw [h0]; decide)) (fun _ H1 e1 => ?_) (fun h => by cases h)
        refine s_fld ev_c (ev_var rfl) (e1 _ _ ho) T.cl T.np (by show 6 < 1000; decide) fun H2 e2 => ?_
        rw [d_pp]
        have k := kp (o := .ins C dx (dfl n ka sa wa false d.bf)) (e1.trans e2)
        exact ⟨rfl, mk (pw := false) (bf := d.bf) (e1.trans e2), k.1, k.2⟩
      · rintro σ2 H2 ⟨rfl, D2, k1, k2⟩
        obtain ⟨dx2, ho2⟩ := D2.o
        exact q_when (b := true) (et_is (et_not (et_B (ev_fld (ev_var rfl) ho2 T.cl T.np d_p))) rfl) (fun _ H3 e3 => qE hno H3 (fun a h z => k1 a h (fresh_back e3 z)) (fun a u h ha => e3 _ _ (k2 a u h ha)) (D2.ex e3)) (fun h => by cases h)
    · refine q_cut (M := fun σ2 H2 => σ2 = [some (.ref p)] ∧ Ex H H2) ?_ ?_
      · refine s_when (b := false) (et_is (et_test (ev_op (ev_fld (ev_var rfl) ho T.cl T.nf d_f) ev_c (rv_eq sc0))) (decide_eq_false fun e => h0 (by
          cases hb : d.bf with
          | none => rw [hb] at e; cases e
          | some k =>
            rw [hb] at e
            have := V.int.inj e
            have : k = 0 := by omega
            rw [this]))) (fun h => by cases h) (fun _ H1 e1 => ⟨rfl, e1⟩)
      · rintro σ2 H2 ⟨rfl, e2⟩
        cases hp : d.pw with
        | false =>
          have hno : ¬ on d := fun h => by have h1 := h.1; rw [hp] at h1; cases h1
          have ed : ({ d with pw := false } : Dk) = d := by rw [← hp]
          exact q_when (b := true) (et_is (et_not (et_B (ev_fld (ev_var rfl) (e2 _ _ ho) T.cl T.np d_p))) (by rw [hp]; rfl)) (fun _ H3 e3 => qE hno H3 (fun a h z => h (fresh_back (e2.trans e3) z)) (fun a u h ha => e3 _ _ (e2 _ _ h)) (by rw [ed]; exact D.ex (e2.trans e3))) (fun h => by cases h)
        | true =>
          have hon : on d := ⟨hp, h0⟩
          refine q_when (b := false) (et_is (et_not (et_B (ev_fld (ev_var rfl) (e2 _ _ ho) T.cl T.np d_p))) (by rw [hp]; rfl)) (fun h => by cases h) (fun _ H3 e3 => ?_)
          cases hb : d.bf with
          | none =>
            refine s_when (b := false) (et_is (et_test (ev_op (ev_fld (ev_var rfl) (e3 _ _ (e2 _ _ ho)) T.cl T.nf d_f) ev_c rv_notN)) (by rw [hb]; decide)) (fun h => by cases h) (fun _ H4 e4 => ?_)
            have ed : ({ d with bf := d.bf.map (· - 1) } : Dk) = d := by
              cases d
              simp only at hb
              rw [hb]
              rfl
            exact q hon H4 (fun a h z => h (fresh_back ((e2.trans e3).trans e4) z)) (fun a u h ha => e4 _ _ (e3 _ _ (e2 _ _ h))) (by rw [ed]; exact D.ex ((e2.trans e3).trans e4))
          | some k =>
            have hk : k ≠ 0 := fun e => h0 (by rw [hb, e])
            obtain ⟨j, rfl⟩ : ∃ j, k = j + 1 := ⟨k - 1, by omega⟩
            refine s_when (b := true) (et_is (et_test (ev_op (ev_fld (ev_var rfl) (e3 _ _ (e2 _ _ ho)) T.cl T.nf d_f) ev_c rv_notN)) (by rw [hb]; show (!decide (V.int ((j + 1 : Nat) : Int) = V.non)) = true; rw [decide_eq_false (fun e => by cases e)]; rfl)) (fun _ H4 e4 => ?_) (fun h => by cases h)
            have ho4 := e4 _ _ (e3 _ _ (e2 _ _ ho))
            have e24 := (e2.trans e3).trans e4
            refine ⟨_, rfl, p, C, dx, _, _, rfl, ho4, T.cl, T.nf, d_f, ⟨((j + 1 : Nat) : Int), 1, by rw [hb]; rfl, rfl, dx, _, ho4, by show 6 < 1000; decide, ?_⟩⟩
            rw [← bf_min j, d_pf]
            have k := kp (o := .ins C dx (dfl n ka sa wa d.pw ((some (j + 1)).map (· - 1)))) e24
            have m := mk (pw := d.pw) (bf := (some (j + 1)).map (· - 1)) e24
            exact q hon _ k.1 k.2 (by rw [hb]; exact m)
theorem ok_read {f fS : Addr} {fd fdS : FuncData} (F : Fun K "read" "Disk.read" sRead f fd) (Gis_sector : FnOk P w K mg base CX0 2 fS fdS ["self", "sector"] (spSec C)) (bis_sector : Binds K fdS ["self", "sector"] []) (mis_sector : Meth K C "_is_sector" fS) (T : Txt mg K C) (XO : Xc K mg "PowerOff" CO) (XN : Xc K mg "NotValid" CN) : FnOk P w K mg base (L2.CX P w) 3 f fd ["self", "sector"] (spRead C CN CO) := by
  refine F.okX scRead (fun vs H Q E h => ?_) (fun cdv A outer s H vs Q E hr h => ?_)
  · obtain ⟨G, p, ka, sa, wa, n, d, z, rfl, _⟩ := h
    rfl
  · obtain ⟨G, p, ka, sa, wa, n, d, z, rfl, D, q, qO, qN⟩ := h
    obtain ⟨dx, ho⟩ := D.o
    refine ⟨_, (pss_cons (ps_if (pt_not (pt_val (pe_fld (pv 0) rfl))) (pss_one (ps_raise0 rfl XO (takes_of rfl rfl rfl rfl) (by rfl))) pss_nil)
      (pss_cons (ps_if (pt_not (pt_val (pe_meth (pv 0) T.cl mis_sector Gis_sector (hr.mono (by decide)) bis_sector .nil pass0 (pa_cons (pv 1) pa_nil)))) (pss_one (ps_raise0 rfl XN (takes_of rfl rfl rfl rfl) (by rfl))) pss_nil)
      (pss_one (ps_ret (pe_callTy call_list_of (by rfl) T.list (by decide +kernel) (pa_cons (pe_ix ix_list (pe_fld (pv 0) rfl) (pv 1) (fun _ _ => rfl)) pa_nil)))))), ?_⟩
    refine q_when (et_not (et_B (ev_fld (ev_var rfl) ho T.cl T.np d_p))) (fun hb H1 e1 => qO (by simpa using hb) H1 e1) (fun hb H1 e1 => ?_)
    have hp : d.pw = true := by simpa using hb
    refine q_when (et_not (et_B (ev_meth (ev_var rfl) (e1 _ _ ho) (d_no ⟨by decide +kernel, by decide +kernel, by decide +kernel, by decide +kernel, by decide +kernel, by decide +kernel⟩) (ea_cons (ev_var rfl) ea_nil) (sv_sec (z := z) (D.ex e1))))) (fun hb H2 e2 => qN hp (fun h => by
      rw [decide_eq_true h.1, decide_eq_true h.2] at hb
      cases hb) H2 (e1.trans e2)) (fun hb H2 e2 => ?_)
    have hz : 0 ≤ z ∧ z < 4 * (n : Int) := by simpa using hb
    obtain ⟨s, hs⟩ := Int.eq_ofNat_of_zero_le hz.1
    have hlt : s < 4 * n := by omega
    have D2 := D.ex (e1.trans e2)
    obtain ⟨ks, h1, h2, h3⟩ := D2.s
    have hks : s < ks.length := by omega
    have ek := List.getElem?_eq_getElem hks
    refine s_retL (el_list (ev_op (ev_fld (ev_var rfl) (e2 _ _ (e1 _ _ ho)) T.cl T.ns d_s) (ev_var rfl) (rv_ixL (v := .ref ks[s]) (sq_of h1) (at_of hs (by rw [List.getElem?_map, ek]; rfl)))) (sq_of (D2.g _ _ (h3 s _ ek)))) fun l H3 hl e3 h3 => q hp s hs hlt l H3 (fresh_back (e1.trans e2) hl) ((e1.trans e2).trans e3) h3
end

end K68D

set_option Elab.async false
set_option linter.all false
set_option maxRecDepth 100000
set_option maxHeartbeats 4000000
namespace K68D
open PySem PySem.Spec PyProof.Rows L2 Evl LK LT LG LS LQ LX LO LN LP
def nV (k : Nat) : V := .int (k : Int)
/-! ### writes and what becomes of them -/
def Rw (H0 : Hp) (ws : List (Nat × List Int)) : Rel := fun i prev y H => ∃ t l w, y = .ref t ∧ ws[i]? = some w ∧ H0 t = none ∧ H0 l = none ∧ H t = some (.tup [.int (w.1 : Int), .ref l]) ∧ H l = some (.lst (w.2.map V.int)) ∧ ∀ t', V.ref t' ∈ prev → ∃ u' l', H t' = some (.tup [u', .ref l']) ∧ l' ≠ l
theorem rw_mon (H0 : Hp) (ws : List (Nat × List Int)) : Mon (Rw H0 ws) := fun i prev y H H' e ⟨t, l, w, h1, h2, h3, h4, h5, h6, h7⟩ => ⟨t, l, w, h1, h2, h3, h4, e _ _ h5, e _ _ h6, fun t' ht => let ⟨u', l', a, b⟩ := h7 t' ht; ⟨u', l', e _ _ a, b⟩⟩
def Rl (H0 : Hp) (f : Nat → List Int) : Rel := fun i prev y H => ∃ l, y = .ref l ∧ H0 l = none ∧ H l = some (.lst ((f i).map V.int)) ∧ ∀ l', V.ref l' ∈ prev → l' ≠ l
theorem rl_mon (H0 : Hp) (f : Nat → List Int) : Mon (Rl H0 f) := fun i prev y H H' e ⟨l, h1, h2, h3, h4⟩ => ⟨l, h1, h2, e _ _ h3, h4⟩
theorem alloc {H H1 : Hp} {a : Addr} {o : HO} (h : H a = some o) (hn : H1 a = none) (e : Ex H H1) : False := by
  rw [e _ _ h] at hn
  cases hn
def spSet (C : Addr) : Sp := fun vs H Q _ => ∃ G p ka sa wa n d c, ∃ cs : List Nat, vs = [.ref p, .ref c] ∧ DK C G H p ka sa wa n d ∧ H c = some (.lst (cs.map nV)) ∧ c ≠ ka ∧
  ∀ G' H1 sa' wa', St G H G' H1 → (∀ a o, H a = some o → a ≠ p → a ≠ ka → H1 a = some o) → DK C G' H1 p ka sa' wa' n { d with kept := aftN d.kept d.ws (fun j => cs.getD j 0) d.ws.length, ws := [] } → Q .non H1
def spFlush (C CO : Addr) : Sp := fun vs H Q E => ∃ G p ka sa wa n d, vs = [.ref p] ∧ DK C G H p ka sa wa n d ∧
  (on d → ∀ G' H1 sa' wa', St G H G' H1 → (∀ a o, H a = some o → a ≠ p → a ≠ ka → H1 a = some o) → DK C G' H1 p ka sa' wa' n { kept := aftN d.kept d.ws (fun _ => 8) d.ws.length, ws := [], pw := d.pw, bf := d.bf.map (· - 1) } → Q .non H1) ∧
  (¬ on d → ∀ H1, St G H G H1 → (∀ a o, H a = some o → a ≠ p → H1 a = some o) → DK C G H1 p ka sa wa n { d with pw := false } → E (.ref CO) none H1)
def spCut (C CN Pt : Addr) : Sp := fun vs H Q E => ∃ G p ka sa wa n d c xs, vs = [.ref p, .ref c] ∧ DK C G H p ka sa wa n d ∧ H c = some (.lst xs) ∧ (∀ x ∈ xs, ∃ k, Kd H x k) ∧ Tab G Pt ∧ c ≠ ka ∧
  (xs.all wc = false → ∀ H', Ex H H' → E (.ref CN) none H') ∧
  (∀ cs : List Nat, xs = (cs.map nV) → (∀ k ∈ cs, k ≤ 8) → ∀ G' H1 sa' wa', St G H G' H1 → (∀ a o, H a = some o → a ≠ p → a ≠ ka → H1 a = some o) → DK C G' H1 p ka sa' wa' n { kept := aftN d.kept d.ws (fun j => cs.getD j 0) d.ws.length, ws := [], pw := true, bf := none } → Q .non H1)
def spWait (C : Addr) : Sp := fun vs H Q _ => ∃ G p ka sa wa n d, vs = [.ref p] ∧ DK C G H p ka sa wa n d ∧ ∀ L ys H1, H L = none → Ex H H1 → H1 L = some (.lst ys) → ys.length = d.ws.length → (∀ i y, ys[i]? = some y → Rw H d.ws i (ys.take i) y H1) → Q (.ref L) H1
def spImgs (C : Addr) (g : Dk → Nat → List Int) : Sp := fun vs H Q _ => ∃ G p ka sa wa n d, vs = [.ref p] ∧ DK C G H p ka sa wa n d ∧ ∀ L ys H1, H L = none → Ex H H1 → H1 L = some (.lst ys) → ys.length = 4 * n → (∀ i y, ys[i]? = some y → Rl H (g d) i (ys.take i) y H1) → Q (.ref L) H1
def spInit (C : Addr) : Sp := fun vs H Q _ => ∃ G p dx n, vs = [.ref p, .int ((n : Nat) : Int)] ∧ Ex G H ∧ G p = none ∧ H p = some (.ins C dx []) ∧ 96 ≤ n ∧ n ≤ 256 ∧ ∀ G' ka sa wa H1, St G H G' H1 → (∀ a o, H a = some o → a ≠ p → H1 a = some o) → DK C G' H1 p ka sa wa n ⟨fun _ => Z8, [], true, none⟩ → Q .non H1
section
variable {P : Program} {w : World} {K : PySem.W.Frag} {mg : Str → Option Value} {base : Heap} {C CN CO : Addr}
theorem ok_write {f fS fA fB Pt : Addr} {fd fdS fdA fdB : FuncData} (F : Fun K "write" "Disk.write" sWrite f fd) (Gis_sector : FnOk P w K mg base CX0 2 fS fdS ["self", "sector"] (spSec C)) (bis_sector : Binds K fdS ["self", "sector"] []) (mis_sector : Meth K C "_is_sector" fS) (FAw : Fun K "are_words" "are_words" sAre fA fdA) (GAw : FnOk P w K mg base CX0 1 fA fdA ["values", "many"] (spAre Pt)) (bAw : Binds K fdA ["values", "many"] []) (gAw : mg "are_words" = some (.ref fA))
    (Gbegin_operation : FnOk P w K mg base (L2.CX P w) 1 fB fdB ["self"] (spBeg C CO)) (bbegin_operation : Binds K fdB ["self"] []) (mbegin_operation : Meth K C "_begin_operation" fB) (T : Txt mg K C) (XN : Xc K mg "NotValid" CN) : FnOk P w K mg base (L2.CX P w) 3 f fd ["self", "sector", "words"] (spWrite C CN CO Pt) := by
  obtain ⟨_, gSECTOR_WORDS⟩ := T.gSECTOR_WORDS
  refine F.okX scWrite (fun vs H Q E h => ?_) (fun cdv A outer s H vs Q E hr h => ?_)
  · obtain ⟨G, p, ka, sa, wa, n, d, z, u, xs, rfl, _⟩ := h
    rfl
  · obtain ⟨G, p, ka, sa, wa, n, d, z, u, xs, rfl, D, hu, hk, hT, hl, hup, qN, q, qO⟩ := h
    obtain ⟨dx, ho⟩ := D.o
    refine ⟨_, (pss_cons (ps_if (PW.pt (pw_or (pt_not (pt_val (pe_meth (pv 0) T.cl mis_sector Gis_sector (hr.mono (by decide)) bis_sector .nil pass0 (pa_cons (pv 1) pa_nil)))) (pw_or1 (pt_not (pt_val (pe_call GAw (hr.mono (by decide)) (by rfl) gAw FAw.kp bAw .nil pass0 (pa_cons (pv 2) (pa_cons (pe_glob (v := .int 8) rfl gSECTOR_WORDS ⟨_, rfl⟩) pa_nil)))))))) (pss_one (ps_raise0 rfl XN (takes_of rfl rfl rfl rfl) (by rfl))) pss_nil)
      (pss_cons (ps_expr (pe_meth0 (pv 0) T.cl mbegin_operation Gbegin_operation (hr.mono (by decide)) bbegin_operation .nil (pass_own (takes_of rfl rfl rfl rfl))))
      (pss_cons (ps_set (i := 3) scWrite.nd rfl (Or.inl rfl) (pe_callTy call_list_of (by rfl) T.list (by decide +kernel) (pa_cons (pv 2) pa_nil)))
      (pss_cons (ps_expr (pe_bm PySem.F.plainAttrs_list PySem.F.slot_list_append PySem.F.type_list_append mt_append (pe_fld (pv 0) rfl) (pa_cons (pe_tup (pa_cons (pv 1) (pa_cons (pv 3) pa_nil))) pa_nil)))
      (pss_one (ps_asg (pv 3) (pg_sub (pe_fld (pv 0) rfl) (pv 1) set_list))))))), ?_⟩
    refine q_when (et_or (et_not (et_B (ev_meth (ev_var rfl) ho (d_no ⟨by decide +kernel, by decide +kernel, by decide +kernel, by decide +kernel, by decide +kernel, by decide +kernel⟩) (ea_cons (ev_var rfl) ea_nil) (sv_sec (z := z) D)))) (fun _ => et_not (et_B (ev_call (vs := [.ref u, .int 8]) (ea_cons (ev_var rfl) (ea_cons ev_c ea_nil)) (fun H1 e1 Q' q' E' => ⟨(hT.mono D.g).mono e1, u, xs, 8, rfl, e1 _ _ hu, fun x hx => let ⟨k, h⟩ := hk x hx; ⟨k, h.mono e1⟩, q'⟩))))) (fun hb H1 e1 => ?_) (fun hb H1 e1 => ?_)
    · refine qN (fun ⟨h1, h2, h3⟩ => ?_) H1 e1
      rw [decide_eq_true h1.1, decide_eq_true h1.2, h3, h2] at hb
      cases hb
    · have hz : InS n z ∧ okW xs := by
        simp at hb
        refine ⟨⟨by omega, by omega⟩, by omega, ?_⟩
        rw [List.all_eq_true]
        exact hb.2.2
      obtain ⟨s, hs⟩ := Int.eq_ofNat_of_zero_le hz.1.1
      have hlt : s < 4 * n := by have := hz.1.2; omega
      obtain ⟨ns, hns, hnn⟩ := okW_ints hz.2.2
      have hnl : ns.length = 8 := by have := hz.2.1; rw [hns, List.length_map] at this; exact this
      refine q_m (ev_var rfl) (e1 _ _ ho) (d_no ⟨by decide +kernel, by decide +kernel, by decide +kernel, by decide +kernel, by decide +kernel, by decide +kernel⟩) ea_nil fun H2 e2 => ⟨G, p, ka, sa, wa, n, d, rfl, D.ex (e1.trans e2), fun hon H3 al fr D3 => ?_, fun hno H3 al fr D3 => qO hno hz H3 ⟨Ex.refl _, fun _ _ g => g, fun a h z => al a (fun z => h (fresh_back (e1.trans e2) z)) z⟩ (fun a o h hp => fr a o ((e1.trans e2) _ _ h) hp) D3⟩
      have e12 := e1.trans e2
      have al3 : ∀ a, H a ≠ none → H3 a ≠ none := fun a h => al a (fun z => h (fresh_back e12 z))
      have hu3 := fr _ _ (e12 _ _ hu) hup
      refine q_asgL (el_list (ev_var rfl) (sq_of hu3)) fun l H4 hl4 e4 h4 => ?_
      have D4 := D3.ex e4
      obtain ⟨dx4, ho4⟩ := D4.o
      obtain ⟨n1, n2, n3⟩ := D4.np
      obtain ⟨ts, w1, w2, w3⟩ := D4.w
      obtain ⟨ks, s1, s2, s3⟩ := D4.s
      have htl : (ts.map V.ref).length < 100000 := by rw [List.length_map, w2]; show d.ws.length < 100000; omega
      refine q_appU w1 (ev_fld (ev_var rfl) ho4 T.cl T.nw d_w) (eu_tup (ea_cons (ev_var rfl) (ea_cons (ev_var rfl) ea_nil)) (by simp)) htl fun t H5 ht5 e5 h5 => ?_
      have sa6 : (upd H5 wa (.lst (ts.map V.ref ++ [.ref t]))) sa = some (.lst (ks.map V.ref)) := by rw [upd_ne D.nsw]; exact e5 _ _ s1
      have ho6 : (upd H5 wa (.lst (ts.map V.ref ++ [.ref t]))) p = some (.ins C dx4 (dfl n ka sa wa d.pw (d.bf.map (· - 1)))) := by rw [upd_ne n3]; exact e5 _ _ ho4
      refine s_setL (j := s) sa6 (ev_var rfl) (ev_fld (ev_var rfl) ho6 T.cl T.ns d_s) (by rw [← hs]; exact ev_var rfl) (by rw [List.length_map, s2]; exact hlt) fun H7 e7 => ?_
      have sT : ∀ a o, H5 a = some o → a ≠ wa → a ≠ sa → (upd H7 sa (.lst ((ks.map V.ref).set s (.ref l)))) a = some o := fun a o h h1 h2 => by
        rw [upd_ne h2]
        exact e7 _ _ (by rw [upd_ne h1]; exact h)
      have wT : (upd H7 sa (.lst ((ks.map V.ref).set s (.ref l)))) wa = some (.lst (ts.map V.ref ++ [.ref t])) := by
        rw [upd_ne D.nsw.symm]
        exact e7 _ _ upd_same
      have sS : (upd H7 sa (.lst ((ks.map V.ref).set s (.ref l)))) sa = some (.lst ((ks.map V.ref).set s (.ref l))) := upd_same
      have gT : Ex G (upd H7 sa (.lst ((ks.map V.ref).set s (.ref l)))) := (((D4.g.trans e5).mut D.gw).trans e7).mut D.gs
      have aT : ∀ a, H5 a ≠ none → (upd H7 sa (.lst ((ks.map V.ref).set s (.ref l)))) a ≠ none := fun a h z => by
        by_cases h2 : a = sa
        · rw [h2, upd_same] at z
          cases z
        · rw [upd_ne h2] at z
          have z5 := fresh_back e7 z
          by_cases h1 : a = wa
          · rw [h1, upd_same] at z5
            cases z5
          · rw [upd_ne h1] at z5
            exact h z5
      generalize upd H7 sa (.lst ((ks.map V.ref).set s (.ref l))) = HX at *
      have e45 := e4.trans e5
      obtain ⟨ap3, ak3, as3, aw3⟩ := D3.al
      obtain ⟨ap, ak, as, aw⟩ := D.al
      obtain ⟨ap4, ak4, as4, aw4⟩ := D4.al
      have l_wa : l ≠ wa := fun e => aw3 (by rw [← e]; exact hl4)
      have l_sa : l ≠ sa := fun e => as3 (by rw [← e]; exact hl4)
      have t_wa : t ≠ wa := fun e => aw4 (by rw [← e]; exact ht5)
      have t_sa : t ≠ sa := fun e => as4 (by rw [← e]; exact ht5)
      have hl0 : H l = none := Classical.byContradiction fun h => al3 l h hl4
      have ht0 : H t = none := Classical.byContradiction fun h => al3 t h (fresh_back e4 ht5)
      have gl : grow G H HX (fun _ => False) l = some (.lst xs) := grow_new (fresh_back D.g hl0) hl0 id (sT l _ (e5 _ _ h4) l_wa l_sa)
      have gt : grow G H HX (fun _ => False) t = some (.tup [.int z, .ref l]) := grow_new (fresh_back D.g ht0) ht0 id (sT t _ h5 t_wa t_sa)
      obtain ⟨ks0, k1, k2, k3⟩ := D4.k
      refine q hon s ns hs hlt hns hnl hnn (grow G H HX fun _ => False) HX ⟨grow_ex, fun a h g => grow_no h g, fun a h => aT a (fun z => al3 a h (fresh_back e45 z))⟩ (fun a o h hp hsa hwa => sT a o (e45 _ _ (fr a o (e12 _ _ h) hp)) hwa hsa)
        ⟨grow_sub gT, grow_no ap D.gp, grow_no ak D.gk, grow_no as D.gs, grow_no aw D.gw, D.nks, D.nkw, D.nsw, ⟨dx4, sT p _ (e5 _ _ ho4) n3 n2⟩, ⟨ks0, sT ka _ (e5 _ _ k1) D.nkw D.nks, k2, fun i a ha => grow_ex _ _ (k3 i a ha)⟩, ⟨ks.set s l, by rw [List.map_set]; exact sS, by rw [List.length_set, s2], fun i a ha => ?_⟩, ⟨ts ++ [t], by rw [List.map_append]; exact wT, by rw [List.length_append, List.length_append, w2]; rfl, fun i t' w' ht' hw' => ?_⟩, D.n0, D.n1, ?_, ?_, D.kz⟩
      · show grow G H HX (fun _ => False) a = some (.lst ((due d.kept (d.ws ++ [(s, ns)]) i).map V.int))
        rw [due_snoc]
        unfold fset
        by_cases hi : i = s
        · subst hi
          rw [List.getElem?_set_self (by rw [s2]; exact hlt)] at ha
          cases ha
          rw [if_pos rfl, gl, hns]
        · rw [List.getElem?_set_ne (fun e => hi e.symm)] at ha
          rw [if_neg hi]
          exact grow_ex _ _ (s3 i a ha)
      · by_cases hi : i < ts.length
        · rw [List.getElem?_append_left hi] at ht'
          rw [List.getElem?_append_left (by rw [← w2]; exact hi)] at hw'
          obtain ⟨l', a, b⟩ := w3 i t' w' ht' hw'
          exact ⟨l', grow_ex _ _ a, grow_ex _ _ b⟩
        · have hi2 : i = ts.length := by
            have := (List.getElem?_eq_some_iff.mp ht').1
            rw [List.length_append] at this
            simp only [List.length_cons, List.length_nil] at this
            omega
          subst hi2
          rw [List.getElem?_append_right (Nat.le_refl _), Nat.sub_self] at ht'
          rw [w2, List.getElem?_append_right (Nat.le_refl _), Nat.sub_self] at hw'
          cases ht'
          cases hw'
          exact ⟨l, by rw [gt, hs], by rw [gl, hns]⟩
      · show (d.ws ++ [(s, ns)]).length ≤ 100
        rw [List.length_append]
        simp only [List.length_cons, List.length_nil]
        omega
      · intro w' hw'
        rcases List.mem_append.mp hw' with h | h
        · exact D.ok w' h
        · rw [List.mem_singleton.mp h]
          exact ⟨hlt, hnl⟩
theorem ok_set {f : Addr} {fd : FuncData} (F : Fun K "_settle_writes" "Disk._settle_writes" sSet f fd) (T : Txt mg K C) : FnOk P w K mg base CX0 1 f fd ["self", "choices"] (spSet C) := by
  refine F.ok scSet (fun vs H Q E h => ?_) (fun cdv A outer s H vs Q E hr h => ?_)
  · obtain ⟨G, p, ka, sa, wa, n, d, c, cs, rfl, _⟩ := h
    rfl
  · obtain ⟨G, p, ka, sa, wa, n, d, c, cs, rfl, D, hc, hck, q⟩ := h
    obtain ⟨dx, ho⟩ := D.o
    obtain ⟨n1, n2, n3⟩ := D.np
    obtain ⟨ap, ak, as, aw⟩ := D.al
    obtain ⟨ts, w1, w2, w3⟩ := D.w
    refine ⟨_, (pss_cons (ps_for PassesOwn.never rfl (pi_zip (by rfl) T.zip (pa_cons (pe_fld (pv 0) rfl) (pa_cons (pv 1) pa_nil))) (pg_tup (by rfl) (pgs_cons (pg_tup (by rfl) (pgs_cons (pg_name (i := 2) scSet.nd rfl (Or.inl rfl)) (pgs_cons (pg_name (i := 3) scSet.nd rfl (Or.inl rfl)) pgs_nil))) (pgs_cons (pg_name (i := 4) scSet.nd rfl (Or.inl rfl)) pgs_nil))) (pss_one (ps_asg (pe_op op_cat (pe_slice sl_list (pv 3) po_none (po_some (pv 4))) (pe_slice sl_list (pe_ix ix_list (pe_fld (pv 0) rfl) (pv 2) (fun _ _ => rfl)) (po_some (pv 4)) po_none)) (pg_sub (pe_fld (pv 0) rfl) (pv 2) set_list))))
      (pss_cons (ps_fld (pv 0) (pe_callTy call_list_of (by rfl) T.list (by decide +kernel) (pa_cons (pe_fld (pv 0) rfl) pa_nil)) rfl)
      (pss_one (ps_fld (pv 0) (pe_lst pa_nil) rfl)))), ?_⟩
    refine q_forZ (ea_cons (ev_fld (ev_var rfl) ho T.cl T.nw d_w) (ea_cons (ev_var rfl) ea_nil)) (sq_of w1) (sq_of hc) (fun i σ' H' => ∃ (y2 y3 y4 : Option V) (ks : List Addr), σ' = [some (.ref p), some (.ref c), y2, y3, y4] ∧ Ex G H' ∧ (∀ a, H a ≠ none → H' a ≠ none) ∧ (∀ a o, H a = some o → a ≠ ka → H' a = some o) ∧ H' ka = some (.lst (ks.map V.ref)) ∧ ks.length = 4 * n ∧
      ∀ (j : Nat) (a : Addr), ks[j]? = some a → G a = some (.lst ((aftN d.kept d.ws (fun j => cs.getD j 0) i j).map V.int)) ∨ (H a = none ∧ H' a = some (.lst ((aftN d.kept d.ws (fun j => cs.getD j 0) i j).map V.int)))) ?_ ?_ ?_ ?_
    · intro H1 e1
      obtain ⟨ks, k1, k2, k3⟩ := D.k
      exact ⟨none, none, none, ks, rfl, D.g.trans e1, fun a h z => h (fresh_back e1 z), fun a o h _ => e1 _ _ h, e1 _ _ k1, k2, fun j a ha => .inl (k3 j a ha)⟩
    · rintro i σ' H' ⟨y2, y3, y4, ks, rfl, g', al, fr, k1, k2, k3⟩
      exact ⟨sq_of (fr _ _ w1 D.nkw.symm), sq_of (fr _ _ hc hck)⟩
    · rintro i x y TT σ' H' hx hy ⟨y2, y3, y4, ks, rfl, g', al, fr, k1, k2, k3⟩ hTT
      rw [List.getElem?_map] at hx hy
      obtain ⟨t, ht, rfl⟩ := Option.map_eq_some_iff.mp hx
      obtain ⟨m, hm, hmy⟩ := Option.map_eq_some_iff.mp hy
      obtain rfl : y = V.int (m : Int) := hmy.symm
      have hi : i < d.ws.length := by rw [← w2]; exact (List.getElem?_eq_some_iff.mp ht).1
      have hwi := List.getElem?_eq_getElem hi
      generalize d.ws[i] = wv at hwi
      obtain ⟨l, g1, g2⟩ := w3 i t wv ht hwi
      obtain ⟨hs, h8⟩ := D.ok wv (List.mem_of_getElem? hwi)
      have eN := Ex.new (o := .tup [.ref t, .int (m : Int)]) hTT
      have gN := g'.trans eN
      have kk := eN _ _ k1
      refine ⟨TT, [.ref t, .int (m : Int)], rfl, st_of upd_same, rfl, .ref t, [.int (m : Int)], rfl, t, [.int (wv.1 : Int), .ref l], rfl, st_of (gN _ _ g1), rfl, _, [_], rfl, _, [], rfl, rfl, _, [], rfl, rfl, ?_⟩
      have hks : wv.1 < ks.length := by rw [k2]; exact hs
      have ek := List.getElem?_eq_getElem hks
      generalize ks[wv.1] = b at ek
      have hb : (upd H' TT (.tup [.ref t, .int (m : Int)])) b = some (.lst ((aftN d.kept d.ws (fun j => cs.getD j 0) i wv.1).map V.int)) := by
        rcases k3 _ _ ek with h | h
        · exact gN _ _ h
        · exact eN _ _ h.2
      have hpN := eN _ _ (fr _ _ ho n1)
      generalize upd H' TT (.tup [.ref t, .int (m : Int)]) = HN at *
      have hlen := aft_len (c := fun j => cs.getD j 0) D.kz (fun w hw => (D.ok w hw).2) i (by omega) wv.1
      refine s_setLL (j := wv.1) (ys := ((wv.2.take m ++ (aftN d.kept d.ws (fun j => cs.getD j 0) i wv.1).drop m)).map V.int) kk (el_is (el_catL (el_sl (ev_var rfl) eo_none (eo_some (ev_var rfl)) (sq_of (gN _ _ g2))) (el_sl (ev_op (ev_fld (ev_var rfl) hpN T.cl T.nk d_k) (ev_var rfl) (rv_ixL (v := .ref b) (sq_of kk) (atI_nat (by rw [List.getElem?_map, ek]; rfl)))) (eo_some (ev_var rfl)) eo_none (sq_of hb)) ?_) ?_) (ev_fld (ev_var rfl) hpN T.cl T.nk d_k) (ev_var rfl) (by rw [List.length_map]; exact hks) fun r H2 hr2 e2 h2 => ?_
      · rw [cut_lo, cut_hi, List.length_take, List.length_drop, List.length_map, List.length_map]
        omega
      · rw [cut_lo, cut_hi, List.map_append, List.map_take, List.map_drop]
      · have aN : ∀ a, H a ≠ none → HN a ≠ none := fun a h z => al a h (fresh_back eN z)
        have rk : r ≠ ka := fun e => aN ka ak (by rw [← e]; exact hr2)
        have hr0 : H r = none := Classical.byContradiction fun h => aN r h hr2
        have cN : aftN d.kept d.ws (fun j => cs.getD j 0) (i + 1) = fset (aftN d.kept d.ws (fun j => cs.getD j 0) i) wv.1 (wv.2.take m ++ (aftN d.kept d.ws (fun j => cs.getD j 0) i wv.1).drop m) := by
          show stepA (aftN d.kept d.ws (fun j => cs.getD j 0) i) (d.ws.getD i (0, [])) (cs.getD i 0) = _
          rw [getD_in hwi, getD_in hm]
          rfl
        refine ⟨_, _, _, ks.set wv.1 r, rfl, (gN.trans e2).mut D.gk, fun a h z => ?_, fun a o h hn => ?_, by rw [upd_same, List.map_set], by rw [List.length_set, k2], fun j a ha => ?_⟩
        · by_cases e : a = ka
          · rw [e, upd_same] at z
            cases z
          · rw [upd_ne e] at z
            exact aN a h (fresh_back e2 z)
        · rw [upd_ne hn]
          exact e2 _ _ (eN _ _ (fr a o h hn))
        · rw [cN]
          unfold fset
          by_cases hj : j = wv.1
          · subst hj
            rw [List.getElem?_set_self hks] at ha
            cases ha
            rw [if_pos rfl, upd_ne rk]
            exact .inr ⟨hr0, h2⟩
          · rw [List.getElem?_set_ne (fun e => hj e.symm)] at ha
            rw [if_neg hj]
            refine (k3 j a ha).imp id fun h => ⟨h.1, ?_⟩
            rw [upd_ne (fun e => ak (by rw [← e]; exact h.1))]
            exact e2 _ _ (eN _ _ h.2)
    · rintro σ' H' ⟨y2, y3, y4, ks, rfl, g', al, fr, k1, k2, k3⟩
      have hp' := fr _ _ ho n1
      have eA : aftN d.kept d.ws (fun j => cs.getD j 0) (min (ts.map V.ref).length (cs.map nV).length) = aftN d.kept d.ws (fun j => cs.getD j 0) d.ws.length := by
        rw [List.length_map, List.length_map, w2]
        by_cases h : d.ws.length ≤ cs.length
        · rw [Nat.min_eq_left h]
        · rw [Nat.min_eq_right (by omega)]
          have := aft_stop (f := d.kept) (ws := d.ws) (c := fun j => cs.getD j 0) (i := cs.length) (fun j hj => by
            show cs.getD j 0 = 0
            rw [List.getD_eq_getElem?_getD, List.getElem?_eq_none hj]
            rfl) (d.ws.length - cs.length)
          rw [← this]
          congr 1
          omega
      rw [eA] at k3
      refine q_fldL (el_list (ev_fld (ev_var rfl) hp' T.cl T.nk d_k) (sq_of k1)) (ev_var rfl) hp' T.cl T.ns (by show 6 < 1000; decide) fun s2 H2 hs2 e2 h2 => ?_
      rw [d_ps]
      refine s_fldL (el_lst ea_nil (by simp)) (ev_var rfl) upd_same T.cl T.nw (by show 6 < 1000; decide) fun w4 H4 hw4 e4 h4 => ?_
      rw [d_pw]
      have a2 : ∀ a, H a ≠ none → H2 a ≠ none := fun a h z => al a h (fresh_back e2 z)
      have s2_0 : H s2 = none := Classical.byContradiction fun h => al s2 h hs2
      have pS : p ≠ s2 := fun e => ap (by rw [e]; exact s2_0)
      have kS : ka ≠ s2 := fun e => ak (by rw [e]; exact s2_0)
      have w4_2 : H2 w4 = none := by
        by_cases e : w4 = p
        · rw [e, upd_same] at hw4
          cases hw4
        · rw [upd_ne e] at hw4
          exact hw4
      have w4_0 : H w4 = none := Classical.byContradiction fun h => a2 w4 h w4_2
      have pW : p ≠ w4 := fun e => ap (by rw [e]; exact w4_0)
      have kW : ka ≠ w4 := fun e => ak (by rw [e]; exact w4_0)
      have sW : s2 ≠ w4 := fun e => by
        rw [← e, h2] at w4_2
        cases w4_2
      have fX : ∀ a o, H2 a = some o → a ≠ p → (upd H4 p (.ins C dx (dfl n ka s2 w4 d.pw d.bf))) a = some o := fun a o h hn => by
        rw [upd_ne hn]
        exact e4 _ _ (by rw [upd_ne hn]; exact h)
      have aX : ∀ a, H2 a ≠ none → (upd H4 p (.ins C dx (dfl n ka s2 w4 d.pw d.bf))) a ≠ none := fun a h z => by
        by_cases e : a = p
        · rw [e, upd_same] at z
          cases z
        · rw [upd_ne e] at z
          have z2 := fresh_back e4 z
          rw [upd_ne e] at z2
          exact h z2
      have wX : (upd H4 p (.ins C dx (dfl n ka s2 w4 d.pw d.bf))) w4 = some (.lst []) := by
        rw [upd_ne pW.symm]
        exact h4
      have pX : (upd H4 p (.ins C dx (dfl n ka s2 w4 d.pw d.bf))) p = some (.ins C dx (dfl n ka s2 w4 d.pw d.bf)) := upd_same
      have gX : Ex G (upd H4 p (.ins C dx (dfl n ka s2 w4 d.pw d.bf))) := (((g'.trans e2).mut D.gp).trans e4).mut D.gp
      generalize upd H4 p (.ins C dx (dfl n ka s2 w4 d.pw d.bf)) = HX at *
      have row : ∀ (j : Nat) (a : Addr), ks[j]? = some a → grow G H HX (fun a => a = s2 ∨ a = w4) a = some (.lst ((aftN d.kept d.ws (fun j => cs.getD j 0) d.ws.length j).map V.int)) := fun j a ha => by
        rcases k3 j a ha with h | h
        · exact grow_ex _ _ h
        · have ap' : a ≠ p := fun e => ap (by rw [← e]; exact h.1)
          have as' : a ≠ s2 := fun e => by
            rw [← e, h.2] at hs2
            cases hs2
          have aw' : a ≠ w4 := fun e => by
            have := e2 _ _ h.2
            rw [e, w4_2] at this
            cases this
          exact grow_new (fresh_back D.g h.1) h.1 (fun z => z.elim as' aw') (fX _ _ (e2 _ _ h.2) ap')
      refine q (grow G H HX fun a => a = s2 ∨ a = w4) HX s2 w4 ⟨grow_ex, fun a h g => grow_no h g, fun a h => aX a (a2 a h)⟩ (fun a o h hp hk => fX a o (e2 _ _ (fr a o h hk)) hp)
        ⟨grow_sub gX, grow_no ap D.gp, grow_no ak D.gk, grow_X (.inl rfl) (fresh_back D.g s2_0), grow_X (.inr rfl) (fresh_back D.g w4_0), kS, kW, sW, ⟨dx, pX⟩, ⟨ks, fX _ _ (e2 _ _ k1) n1.symm, k2, row⟩, ⟨ks, fX _ _ h2 pS.symm, k2, row⟩, ⟨[], wX, rfl, fun i t w' ht => by simp at ht⟩, D.n0, D.n1, Nat.zero_le _, fun w' hw' => absurd hw' List.not_mem_nil, aft_len D.kz (fun w hw => (D.ok w hw).2) _ (Nat.le_refl _)⟩
end

end K68D

set_option Elab.async false
set_option linter.all false
set_option maxRecDepth 100000
set_option maxHeartbeats 4000000
namespace K68D
open PySem PySem.Spec PyProof.Rows L2 Evl LK LT LG LS LQ LX LO LN LP
theorem nV_ints (cs : List Nat) : cs.map nV = (cs.map fun k : Nat => (k : Int)).map V.int := by
  rw [List.map_map]
  rfl
theorem wc_nats : ∀ {xs : List V}, xs.all wc = true → ∃ cs : List Nat, xs = cs.map nV ∧ ∀ k ∈ cs, k ≤ 8
  | [], _ => ⟨[], rfl, fun z hz => absurd hz List.not_mem_nil⟩
  | x :: r, h => by
    rw [List.all_cons, Bool.and_eq_true] at h
    obtain ⟨ns, e, hn⟩ := wc_nats h.2
    cases x with
    | int i =>
      have h0 : (decide (0 ≤ i) && decide (i ≤ 8)) = true := h.1
      have h1 : 0 ≤ i ∧ i ≤ 8 := by simpa using h0
      obtain ⟨k, rfl⟩ := Int.eq_ofNat_of_zero_le h1.1
      exact ⟨k :: ns, by rw [e]; rfl, fun z hz => by
        rcases List.mem_cons.mp hz with rfl | h
        · omega
        · exact hn z h⟩
    | _ => cases h.1
theorem nats_wc {cs : List Nat} (h : ∀ k ∈ cs, k ≤ 8) : (cs.map nV).all wc = true := by
  rw [List.all_eq_true]
  intro x hx
  obtain ⟨z, hz, rfl⟩ := List.mem_map.mp hx
  have := h z hz
  show (decide ((0 : Int) ≤ (z : Int)) && decide ((z : Int) ≤ 8)) = true
  rw [decide_eq_true (by omega), decide_eq_true (by omega)]
  rfl
theorem nV_inj : ∀ {cs ds : List Nat}, cs.map nV = ds.map nV → cs = ds
  | [], [], _ => rfl
  | [], d :: s, h => by simp at h
  | c :: r, [], h => by simp at h
  | c :: r, d :: s, h => by
    rw [List.map_cons, List.map_cons] at h
    injection h with h1 h2
    have h3 : (c : Int) = (d : Int) := V.int.inj h1
    rw [nV_inj h2]
    congr 1
    omega
section
variable {P : Program} {w : World} {K : PySem.W.Frag} {mg : Str → Option Value} {base : Heap} {C CN CO : Addr}
theorem ok_flush {f fB fS : Addr} {fd fdB fdS : FuncData} (F : Fun K "flush" "Disk.flush" sFlush f fd) (Gbegin_operation : FnOk P w K mg base (L2.CX P w) 1 fB fdB ["self"] (spBeg C CO)) (bbegin_operation : Binds K fdB ["self"] []) (mbegin_operation : Meth K C "_begin_operation" fB) (Gsettle_writes : FnOk P w K mg base CX0 1 fS fdS ["self", "choices"] (spSet C)) (bsettle_writes : Binds K fdS ["self", "choices"] []) (msettle_writes : Meth K C "_settle_writes" fS) (T : Txt mg K C) : FnOk P w K mg base (L2.CX P w) 2 f fd ["self"] (spFlush C CO) := by
  obtain ⟨_, gSECTOR_WORDS⟩ := T.gSECTOR_WORDS
  refine F.okX scFlush (fun vs H Q E h => ?_) (fun cdv A outer s H vs Q E hr h => ?_)
  · obtain ⟨G, p, ka, sa, wa, n, d, rfl, _⟩ := h
    rfl
  · obtain ⟨G, p, ka, sa, wa, n, d, rfl, D, q, qO⟩ := h
    obtain ⟨dx, ho⟩ := D.o
    refine ⟨_, (pss_cons (ps_expr (pe_meth0 (pv 0) T.cl mbegin_operation Gbegin_operation (hr.mono (by decide)) bbegin_operation .nil (pass_own (takes_of rfl rfl rfl rfl))))
      (pss_one (ps_expr (pe_meth (pv 0) T.cl msettle_writes Gsettle_writes (hr.mono (by decide)) bsettle_writes .nil pass0 (pa_cons (pe_op op_rep (pe_lst (pa_cons (pe_glob (v := .int 8) rfl gSECTOR_WORDS ⟨_, rfl⟩) pa_nil)) (pe_callB call_len_seq (by rfl) T.len (by decide +kernel) (pa_cons (pe_fld (pv 0) rfl) pa_nil))) pa_nil))))), ?_⟩
    refine q_m (ev_var rfl) ho (d_no ⟨by decide +kernel, by decide +kernel, by decide +kernel, by decide +kernel, by decide +kernel, by decide +kernel⟩) ea_nil fun H2 e2 => ⟨G, p, ka, sa, wa, n, d, rfl, D.ex e2, fun hon H3 al fr D3 => ?_, fun hno H3 al fr D3 => qO hno H3 ⟨Ex.refl _, fun _ _ g => g, fun a h z => al a (fun z => h (fresh_back e2 z)) z⟩ (fun a o h hp => fr a o (e2 _ _ h) hp) D3⟩
    have al3 : ∀ a, H a ≠ none → H3 a ≠ none := fun a h => al a (fun z => h (fresh_back e2 z))
    obtain ⟨dx3, ho3⟩ := D3.o
    obtain ⟨ts, w1, w2, w3⟩ := D3.w
    have hwl : d.ws.length ≤ 100 := D.wl
    have w2' : ts.length = d.ws.length := w2
    refine mR_run (ev_var rfl) ho3 (d_no ⟨by decide +kernel, by decide +kernel, by decide +kernel, by decide +kernel, by decide +kernel, by decide +kernel⟩) (el_rep1 (el_lst (ea_cons ev_c ea_nil) (by simp)) (ev_len (ev_fld (ev_var rfl) ho3 T.cl T.nw d_w) (sq_of w1)) (by omega) (by rw [List.length_map]; omega)) fun c H5 hc e5 h5 => ?_
    have D5 := D3.ex e5
    have hck : c ≠ ka := fun e => D3.al.2.1 (by rw [← e]; exact hc)
    refine ⟨G, p, ka, sa, wa, n, _, c, List.replicate d.ws.length 8, rfl, D5, ?_, hck, fun G' H6 sa' wa' S6 fr6 D6 => ?_⟩
    · rw [h5, List.length_map, w2', List.map_replicate]
      rfl
    · have ec : aftN d.kept d.ws (fun j => (List.replicate d.ws.length 8).getD j 0) d.ws.length = aftN d.kept d.ws (fun _ => 8) d.ws.length := aft_cong fun j hj => by
        rw [List.getD_eq_getElem?_getD, List.getElem?_replicate, if_pos hj]
        rfl
      have D7 : DK C G' H6 p ka sa' wa' n { kept := aftN d.kept d.ws (fun _ => 8) d.ws.length, ws := [], pw := d.pw, bf := d.bf.map (· - 1) } := by
        rw [← ec]
        exact D6
      exact q hon G' H6 sa' wa' ⟨S6.g, fun a h g => S6.n a (fun z => al3 a h (fresh_back e5 z)) g, fun a h => S6.a a (fun z => al3 a h (fresh_back e5 z))⟩ (fun a o h hp hk => fr6 a o (e5 _ _ (fr a o (e2 _ _ h) hp)) hp hk) D7
theorem ok_cut {f fA fS Pt : Addr} {fd fdA fdS : FuncData} (F : Fun K "cut" "Disk.cut" sCut f fd) (FAc : Fun K "are_choices" "are_choices" sChs fA fdA) (GAc : FnOk P w K mg base CX0 1 fA fdA ["choices"] (spChs Pt)) (bAc : Binds K fdA ["choices"] []) (gAc : mg "are_choices" = some (.ref fA)) (Gsettle_writes : FnOk P w K mg base CX0 1 fS fdS ["self", "choices"] (spSet C)) (bsettle_writes : Binds K fdS ["self", "choices"] []) (msettle_writes : Meth K C "_settle_writes" fS) (T : Txt mg K C) (XN : Xc K mg "NotValid" CN) : FnOk P w K mg base (L2.CX P w) 2 f fd ["self", "choices"] (spCut C CN Pt) := by
  refine F.okX scCut (fun vs H Q E h => ?_) (fun cdv A outer s H vs Q E hr h => ?_)
  · obtain ⟨G, p, ka, sa, wa, n, d, c, xs, rfl, _⟩ := h
    rfl
  · obtain ⟨G, p, ka, sa, wa, n, d, c, xs, rfl, D, hc, hk, hT, hck, qN, q⟩ := h
    obtain ⟨dx, ho⟩ := D.o
    refine ⟨_, (pss_cons (ps_if (pt_not (pt_val (pe_call GAc (hr.mono (by decide)) (by rfl) gAc FAc.kp bAc .nil pass0 (pa_cons (pv 1) pa_nil)))) (pss_one (ps_raise0 rfl XN (takes_of rfl rfl rfl rfl) (by rfl))) pss_nil)
      (pss_cons (ps_expr (pe_meth (pv 0) T.cl msettle_writes Gsettle_writes (hr.mono (by decide)) bsettle_writes .nil pass0 (pa_cons (pv 1) pa_nil)))
      (pss_cons (ps_fld (pv 0) pe_bl rfl)
      (pss_one (ps_fld (pv 0) pe_non rfl))))), ?_⟩
    refine q_when (et_not (et_B (ev_call (vs := [.ref c]) (z := .bl (xs.all wc)) (ea_cons (ev_var rfl) ea_nil) (fun H1 e1 Q' q' E' => ⟨(hT.mono D.g).mono e1, c, xs, rfl, e1 _ _ hc, fun x hx => let ⟨k, h⟩ := hk x hx; ⟨k, h.mono e1⟩, q'⟩)))) (fun hb H1 e1 => qN (by simpa using hb) H1 e1) (fun hb H1 e1 => ?_)
    obtain ⟨cs, rfl, h8⟩ := wc_nats (xs := xs) (by simpa using hb)
    have ap := D.al.1
    refine q_m (ev_var rfl) (e1 _ _ ho) (d_no ⟨by decide +kernel, by decide +kernel, by decide +kernel, by decide +kernel, by decide +kernel, by decide +kernel⟩) (ea_cons (ev_var rfl) ea_nil) fun H2 e2 => ⟨G, p, ka, sa, wa, n, d, c, cs, rfl, D.ex (e1.trans e2), e2 _ _ (e1 _ _ hc), hck, fun G' H3 sa' wa' S3 fr3 D3 => ?_⟩
    have e12 := e1.trans e2
    obtain ⟨dx3, ho3⟩ := D3.o
    obtain ⟨n1, n2, n3⟩ := D3.np
    refine q_fld ev_c (ev_var rfl) ho3 T.cl T.np (by show 6 < 1000; decide) fun H4 e4 => ?_
    rw [d_pp]
    refine s_fld ev_c (ev_var rfl) upd_same T.cl T.nf (by show 6 < 1000; decide) fun H5 e5 => ?_
    rw [show putF "_before_failure" V.non (dfl n ka sa' wa' true d.bf) = dfl n ka sa' wa' true none from d_pf (bf' := none)]
    have fX : ∀ a o, H3 a = some o → a ≠ p → (upd H5 p (.ins C dx3 (dfl n ka sa' wa' true none))) a = some o := fun a o h hn => by
      rw [upd_ne hn]
      exact e5 _ _ (by rw [upd_ne hn]; exact e4 _ _ h)
    have aX : ∀ a, H3 a ≠ none → (upd H5 p (.ins C dx3 (dfl n ka sa' wa' true none))) a ≠ none := fun a h z => by
      by_cases e : a = p
      · rw [e, upd_same] at z
        cases z
      · rw [upd_ne e] at z
        have z2 := fresh_back e5 z
        rw [upd_ne e] at z2
        exact h (fresh_back e4 z2)
    have pX : (upd H5 p (.ins C dx3 (dfl n ka sa' wa' true none))) p = some (.ins C dx3 (dfl n ka sa' wa' true none)) := upd_same
    have gX : Ex G' (upd H5 p (.ins C dx3 (dfl n ka sa' wa' true none))) := ((((D3.g.trans e4).mut D3.gp)).trans e5).mut D3.gp
    generalize upd H5 p (.ins C dx3 (dfl n ka sa' wa' true none)) = HX at *
    refine q cs rfl h8 G' HX sa' wa' ⟨S3.g, fun a h g => S3.n a (fun z => h (fresh_back e12 z)) g, fun a h => aX a (S3.a a (fun z => h (fresh_back e12 z)))⟩ (fun a o h hp hk => fX a o (fr3 a o (e12 _ _ h) hp hk) hp) ?_
    obtain ⟨ks, k1, k2, k3⟩ := D3.k
    obtain ⟨ss, s1, s2, s3⟩ := D3.s
    obtain ⟨ts, w1, w2, w3⟩ := D3.w
    exact ⟨gX, D3.gp, D3.gk, D3.gs, D3.gw, D3.nks, D3.nkw, D3.nsw, ⟨dx3, pX⟩, ⟨ks, fX _ _ k1 n1.symm, k2, k3⟩, ⟨ss, fX _ _ s1 n2.symm, s2, s3⟩, ⟨ts, fX _ _ w1 n3.symm, w2, w3⟩, D3.n0, D3.n1, D3.wl, D3.ok, D3.kz⟩
theorem ok_wait {f : Addr} {fd : FuncData} (F : Fun K "waiting" "Disk.waiting" sWait f fd) (T : Txt mg K C) : FnOk P w K mg base CX0 1 f fd ["self"] (spWait C) := by
  refine F.ok scWait (fun vs H Q E h => ?_) (fun cdv A outer s H vs Q E hr h => ?_)
  · obtain ⟨G, p, ka, sa, wa, n, d, rfl, _⟩ := h
    rfl
  · obtain ⟨G, p, ka, sa, wa, n, d, rfl, D, q⟩ := h
    obtain ⟨dx, ho⟩ := D.o
    obtain ⟨ts, w1, w2, w3⟩ := D.w
    have hwl := D.wl
    refine ⟨_, (pss_one (ps_ret (pe_lc (own := [("sector", 1), ("words", 2)]) (g := gTup K 2 (gCons (gName 1) (gCons (gName 2) gNil))) (tt := tYes) rfl scWait.nd (pi_list (pe_fld (pv 0) rfl)) (blkOk_by (own := [("sector", 1), ("words", 2)]) (N := ["self", "sector", "words"]) (sc := defScope sWait) (by decide +kernel)) (fun _ _ _ _ _ => pg_tup rfl (pgs_cons (pg_name (i := 1) scWait.nd rfl (Or.inl rfl)) (pgs_cons (pg_name (i := 2) scWait.nd rfl (Or.inl rfl)) pgs_nil))) (fun _ _ _ _ _ => pts_nil) (fun _ _ _ _ _ => (pe_tup (pa_cons (pv 1) (pa_cons (pe_callTy (r := rListS K) call_list_of (by rfl) T.list (by decide +kernel) (pa_cons (pv 2) pa_nil)) pa_nil))))))), ?_⟩
    refine er_ret (R := Rw H d.ws) (er_L2 (ev_fld (ev_var rfl) ho T.cl T.nw d_w) (sq_of w1) (by rw [List.length_map]; omega) (fun _ _ => rfl) (rw_mon _ _) (fun i x Dd H1 hD e1 hDn hx => ?_)) fun L ys H1 hL e1 h1 hn hr => q L ys H1 hL e1 h1 (by rw [hn, List.length_map, w2]) hr
    rw [List.getElem?_map] at hx
    obtain ⟨t, ht, rfl⟩ := Option.map_eq_some_iff.mp hx
    have hi : i < d.ws.length := by rw [← w2]; exact (List.getElem?_eq_some_iff.mp ht).1
    have hwi := List.getElem?_eq_getElem hi
    generalize d.ws[i] = wv at hwi
    obtain ⟨l, g1, g2⟩ := w3 i t wv ht hwi
    have gH := D.g.trans e1
    refine ⟨t, _, _, rfl, st_of (gH _ _ g1), fun xs hxs hpre Q' q' => ?_⟩
    refine ⟨.int (wv.1 : Int), rfl, el_list (K := K) (ev_var rfl) (sq_of (gH _ _ g2)) H1 (Ex.refl _) _ fun l2 H2 hl2 e2 h2 => ⟨by show 2 ≤ sizeLine; decide, fun t2 ht2 => ?_⟩⟩
    have eT := Ex.new (o := .tup [.int (wv.1 : Int), .ref l2]) ht2
    have b1 : but Dd (upd H2 t2 (.tup [.int (wv.1 : Int), .ref l2])) t2 = some (.tup [.int (wv.1 : Int), .ref l2]) := but_new hDn (fresh_back e2 ht2) upd_same
    have b2 : but Dd (upd H2 t2 (.tup [.int (wv.1 : Int), .ref l2])) l2 = some (.lst (wv.2.map V.int)) := but_new hDn hl2 (eT _ _ h2)
    refine q' (.ref t2) _ (e2.trans eT) ⟨t2, l2, wv, rfl, hwi, fresh_back (e1.trans e2) ht2, fresh_back e1 hl2, b1, b2, fun t' ht' => ?_⟩
    obtain ⟨j, hj⟩ := List.mem_iff_getElem?.mp ht'
    obtain ⟨t3, l3, w3', e3, _, _, _, h5, h6, _⟩ := hpre j _ hj
    cases e3
    exact ⟨_, l3, ex_but (e2.trans eT) _ _ h5, fun e => by
      have := but_ex _ _ h6
      rw [e, hl2] at this
      cases this⟩
def Rz (H0 : Hp) : Rel := fun _ _ y H => ∃ l, y = .ref l ∧ H0 l = none ∧ H l = some (.lst (Z8.map V.int))
theorem rz_mon (H0 : Hp) : Mon (Rz H0) := fun i prev y H H' e ⟨l, h1, h2, h3⟩ => ⟨l, h1, h2, e _ _ h3⟩
theorem ok_init {f fS : Addr} {fd fdS : FuncData} (F : Fun K "__init__" "Disk.__init__" sInit f fd) (FSz : Fun K "is_size" "is_size" sSize fS fdS) (GSz : FnOk P w K mg base CX0 2 fS fdS ["blocks"] spSize) (bSz : Binds K fdS ["blocks"] []) (gSz : mg "is_size" = some (.ref fS)) (T : Txt mg K C) (XN : Xc K mg "NotValid" CN) : FnOk P w K mg base (L2.CX P w) 3 f fd ["self", "blocks"] (spInit C) := by
  obtain ⟨_, gSECTOR_WORDS⟩ := T.gSECTOR_WORDS
  obtain ⟨_, gBLOCK_SECTORS⟩ := T.gBLOCK_SECTORS
  refine F.okX scInit (fun vs H Q E h => ?_) (fun cdv A outer s H vs Q E hr h => ?_)
  · obtain ⟨G, p, dx, n, rfl, _⟩ := h
    rfl
  · obtain ⟨G, p, dx, n, rfl, g0, gp, ho, h0, h1, q⟩ := h
    refine ⟨_, (pss_cons (ps_if (pt_not (pt_val (pe_call GSz (hr.mono (by decide)) (by rfl) gSz FSz.kp bSz .nil pass0 (pa_cons (pv 1) pa_nil)))) (pss_one (ps_raise0 rfl XN (takes_of rfl rfl rfl rfl) (by rfl))) pss_nil)
      (pss_cons (ps_fld (pv 0) (pv 1) rfl)
      (pss_cons (ps_fld (pv 0) (pe_lc (own := [("_", 2)]) (g := gName 2) (tt := tYes) rfl scInit.nd (pi_range1 (by rfl) T.range (pa_cons (pe_op op_mul (pe_glob (v := .int 4) rfl gBLOCK_SECTORS ⟨_, rfl⟩) (pv 1)) pa_nil)) (blkOk_by (own := [("_", 2)]) (N := ["self", "blocks", "_"]) (sc := defScope sInit) (by decide +kernel)) (fun _ _ _ _ _ => pg_name (i := 2) scInit.nd rfl (Or.inl rfl)) (fun _ _ _ _ _ => pts_nil) (fun _ _ _ _ _ => (pe_op op_rep (pe_lst (pa_cons pe_int pa_nil)) (pe_glob (v := .int 8) rfl gSECTOR_WORDS ⟨_, rfl⟩)))) rfl)
      (pss_cons (ps_fld (pv 0) (pe_callTy call_list_of (by rfl) T.list (by decide +kernel) (pa_cons (pe_fld (pv 0) rfl) pa_nil)) rfl)
      (pss_cons (ps_fld (pv 0) (pe_lst pa_nil) rfl)
      (pss_cons (ps_fld (pv 0) pe_bl rfl)
      (pss_one (ps_fld (pv 0) pe_non rfl)))))))), ?_⟩
    refine q_when (b := false) (et_is (et_not (et_B (ev_call (vs := [.int (n : Int)]) (ea_cons (ev_var rfl) ea_nil) (fun H1 e1 Q' q' E' => ⟨(n : Int), rfl, q'⟩)))) (by
      rw [decide_eq_true (by omega), decide_eq_true (by omega), decide_eq_true (by omega)]
      rfl)) (fun h => by cases h) (fun _ H1 e1 => ?_)
    refine q_fld (ev_var rfl) (ev_var rfl) (e1 _ _ ho) T.cl T.nb (by show 0 < 1000; decide) fun H2 e2 => ?_
    have aP : ∀ {H' H'' : Hp} {o : HO}, (∀ a, H a ≠ none → H' a ≠ none) → Ex H' H'' → ∀ a, H a ≠ none → (upd H'' p o) a ≠ none := fun h e a ha z => by
      by_cases ep : a = p
      · rw [ep, upd_same] at z
        cases z
      · rw [upd_ne ep] at z
        exact h a ha (fresh_back e z)
    have fP : ∀ {H' H'' : Hp} {o : HO}, (∀ a u, H a = some u → a ≠ p → H' a = some u) → Ex H' H'' → ∀ a u, H a = some u → a ≠ p → (upd H'' p o) a = some u := fun h e a u ha hn => by
      rw [upd_ne hn]
      exact e _ _ (h a u ha hn)
    have a2 := aP (o := .ins C dx (putF "blocks" (.int (n : Int)) [])) (fun a ha => ha) (e1.trans e2)
    have f2 := fP (o := .ins C dx (putF "blocks" (.int (n : Int)) [])) (fun a u ha _ => ha) (e1.trans e2)
    have g2 : Ex G (upd H2 p (.ins C dx (putF "blocks" (.int (n : Int)) []))) := ((g0.trans e1).trans e2).mut gp
    have p2 : (upd H2 p (.ins C dx (putF "blocks" (.int (n : Int)) []))) p = some (.ins C dx [(("blocks" : Str), .int (n : Int))]) := upd_same
    generalize upd H2 p (.ins C dx (putF "blocks" (.int (n : Int)) [])) = H3 at *
    refine q_fldR (n := (4 * (n : Int)).toNat) (R := Rz H3) (er_R1 (ea_cons (ev_op ev_c (ev_var rfl) (rv_I (.inl ⟨by decide, by decide⟩))) ea_nil) ⟨by omega, by omega⟩ (fun _ => rfl) (rz_mon _) (fun i Dd H4 hD e4 hDn hi xs hxs hpre Q' q' => ?_)) (ev_var rfl) p2 T.cl T.nk (by show 1 < 1000; decide) fun ka xs H4 H5 hk4 e4 e5 h5 hxl hrow => ?_
    · exact el_rep1 (el_lst (ea_cons ev_c ea_nil) (by simp)) ev_c (by decide) (by decide) H4 (Ex.refl _) _ fun l H5 hl e5 h5 => q' (.ref l) H5 e5 ⟨l, rfl, fresh_back e4 hl, but_new hDn hl h5⟩
    have hkp : ka ≠ p := fun e => by rw [e, p2] at hk4; cases hk4
    have e45 := e4.trans e5
    have a4 := aP (o := .ins C dx (putF "_kept" (.ref ka) [(("blocks" : Str), .int (n : Int))])) a2 e45
    have f4 := fP (o := .ins C dx (putF "_kept" (.ref ka) [(("blocks" : Str), .int (n : Int))])) f2 e45
    have g4 : Ex G (upd H5 p (.ins C dx (putF "_kept" (.ref ka) [(("blocks" : Str), .int (n : Int))]))) := (g2.trans e45).mut gp
    have p4 : (upd H5 p (.ins C dx (putF "_kept" (.ref ka) [(("blocks" : Str), .int (n : Int))]))) p = some (.ins C dx [(("blocks" : Str), .int (n : Int)), (("_kept" : Str), .ref ka)]) := upd_same
    have k4 : (upd H5 p (.ins C dx (putF "_kept" (.ref ka) [(("blocks" : Str), .int (n : Int))]))) ka = some (.lst xs) := by rw [upd_ne hkp]; exact h5
    have r4 : ∀ (i : Nat) (y : V), xs[i]? = some y → ∃ l, y = V.ref l ∧ H3 l = none ∧ (upd H5 p (.ins C dx (putF "_kept" (.ref ka) [(("blocks" : Str), .int (n : Int))]))) l = some (.lst (Z8.map V.int)) := fun i y hy => by
      obtain ⟨l, h1, h2, h3⟩ := hrow i y hy
      refine ⟨l, h1, h2, ?_⟩
      rw [upd_ne (fun e => by rw [e, p2] at h2; cases h2)]
      exact e5 _ _ h3
    generalize upd H5 p (.ins C dx (putF "_kept" (.ref ka) [(("blocks" : Str), .int (n : Int))])) = H6 at *
    refine q_fldL (el_list (ev_fld (ev_var rfl) p4 T.cl T.nk rfl) (sq_of k4)) (ev_var rfl) p4 T.cl T.ns (by show 2 < 1000; decide) fun sa H7 hs7 e7 h7 => ?_
    have hsp : sa ≠ p := fun e => by rw [e, p4] at hs7; cases hs7
    have hsk : ka ≠ sa := ne_of_none k4 hs7
    have a7 := aP (o := .ins C dx (putF "_shown" (.ref sa) [(("blocks" : Str), .int (n : Int)), (("_kept" : Str), .ref ka)])) a4 e7
    have f7 := fP (o := .ins C dx (putF "_shown" (.ref sa) [(("blocks" : Str), .int (n : Int)), (("_kept" : Str), .ref ka)])) f4 e7
    have g7 : Ex G (upd H7 p (.ins C dx (putF "_shown" (.ref sa) [(("blocks" : Str), .int (n : Int)), (("_kept" : Str), .ref ka)]))) := (g4.trans e7).mut gp
    have p7 : (upd H7 p (.ins C dx (putF "_shown" (.ref sa) [(("blocks" : Str), .int (n : Int)), (("_kept" : Str), .ref ka)]))) p = some (.ins C dx [(("blocks" : Str), .int (n : Int)), (("_kept" : Str), .ref ka), (("_shown" : Str), .ref sa)]) := upd_same
    have x7 : ∀ a o, H6 a = some o → a ≠ p → (upd H7 p (.ins C dx (putF "_shown" (.ref sa) [(("blocks" : Str), .int (n : Int)), (("_kept" : Str), .ref ka)]))) a = some o := fun a o h hn => by rw [upd_ne hn]; exact e7 _ _ h
    have s7 : (upd H7 p (.ins C dx (putF "_shown" (.ref sa) [(("blocks" : Str), .int (n : Int)), (("_kept" : Str), .ref ka)]))) sa = some (.lst xs) := by rw [upd_ne hsp]; exact h7
    generalize upd H7 p (.ins C dx (putF "_shown" (.ref sa) [(("blocks" : Str), .int (n : Int)), (("_kept" : Str), .ref ka)])) = H8 at *
    refine q_fldL (el_lst ea_nil (by simp)) (ev_var rfl) p7 T.cl T.nw (by show 3 < 1000; decide) fun wa H9 hw9 e9 h9 => ?_
    have hwp : wa ≠ p := fun e => by rw [e, p7] at hw9; cases hw9
    have hws : sa ≠ wa := ne_of_none s7 hw9
    have hwk : ka ≠ wa := ne_of_none (x7 _ _ k4 hkp) hw9
    have a9 := aP (o := .ins C dx (putF "_writes" (.ref wa) [(("blocks" : Str), .int (n : Int)), (("_kept" : Str), .ref ka), (("_shown" : Str), .ref sa)])) a7 e9
    have f9 := fP (o := .ins C dx (putF "_writes" (.ref wa) [(("blocks" : Str), .int (n : Int)), (("_kept" : Str), .ref ka), (("_shown" : Str), .ref sa)])) f7 e9
    have g9 : Ex G (upd H9 p (.ins C dx (putF "_writes" (.ref wa) [(("blocks" : Str), .int (n : Int)), (("_kept" : Str), .ref ka), (("_shown" : Str), .ref sa)]))) := (g7.trans e9).mut gp
    have p9 : (upd H9 p (.ins C dx (putF "_writes" (.ref wa) [(("blocks" : Str), .int (n : Int)), (("_kept" : Str), .ref ka), (("_shown" : Str), .ref sa)]))) p = some (.ins C dx [(("blocks" : Str), .int (n : Int)), (("_kept" : Str), .ref ka), (("_shown" : Str), .ref sa), (("_writes" : Str), .ref wa)]) := upd_same
    have x9 : ∀ a o, H8 a = some o → a ≠ p → (upd H9 p (.ins C dx (putF "_writes" (.ref wa) [(("blocks" : Str), .int (n : Int)), (("_kept" : Str), .ref ka), (("_shown" : Str), .ref sa)]))) a = some o := fun a o h hn => by rw [upd_ne hn]; exact e9 _ _ h
    have w9 : (upd H9 p (.ins C dx (putF "_writes" (.ref wa) [(("blocks" : Str), .int (n : Int)), (("_kept" : Str), .ref ka), (("_shown" : Str), .ref sa)]))) wa = some (.lst []) := by rw [upd_ne hwp]; exact h9
    generalize upd H9 p (.ins C dx (putF "_writes" (.ref wa) [(("blocks" : Str), .int (n : Int)), (("_kept" : Str), .ref ka), (("_shown" : Str), .ref sa)])) = H10 at *
    refine q_fld ev_c (ev_var rfl) p9 T.cl T.np (by show 4 < 1000; decide) fun H11 e11 => ?_
    refine s_fld ev_c (ev_var rfl) upd_same T.cl T.nf (by show 5 < 1000; decide) fun H12 e12 => ?_
    show Q .non (upd H12 p (.ins C dx (dfl n ka sa wa true none)))
    have x12 : ∀ a o, H10 a = some o → a ≠ p → (upd H12 p (.ins C dx (dfl n ka sa wa true none))) a = some o := fun a o h hn => by
      rw [upd_ne hn]
      exact e12 _ _ (by rw [upd_ne hn]; exact e11 _ _ h)
    have a12 := aP (o := .ins C dx (dfl n ka sa wa true none)) (aP (o := .ins C dx (putF "_powered" (V.bl true) [(("blocks" : Str), .int (n : Int)), (("_kept" : Str), .ref ka), (("_shown" : Str), .ref sa), (("_writes" : Str), .ref wa)])) a9 e11) e12
    have g12 : Ex G (upd H12 p (.ins C dx (dfl n ka sa wa true none))) := (((g9.trans e11).mut gp).trans e12).mut gp
    have p12 : (upd H12 p (.ins C dx (dfl n ka sa wa true none))) p = some (.ins C dx (dfl n ka sa wa true none)) := upd_same
    generalize upd H12 p (.ins C dx (dfl n ka sa wa true none)) = HX at *
    have k0 : H ka = none := Classical.byContradiction fun h => a2 ka h hk4
    have s0 : H sa = none := Classical.byContradiction fun h => a4 sa h hs7
    have w0 : H wa = none := Classical.byContradiction fun h => a7 wa h hw9
    have toX : ∀ a o, H6 a = some o → a ≠ p → HX a = some o := fun a o h hn => x12 _ _ (x9 _ _ (x7 _ _ h hn) hn) hn
    obtain ⟨ks, hks⟩ : ∃ ks : List Addr, xs = ks.map V.ref := by
      refine refs_of fun y hy => ?_
      obtain ⟨i, hi⟩ := List.mem_iff_getElem?.mp hy
      obtain ⟨l, h, _⟩ := r4 i y hi
      exact ⟨l, h⟩
    have hkl : ks.length = 4 * n := by
      have := hxl
      rw [hks, List.length_map] at this
      omega
    have row : ∀ (j : Nat) (a : Addr), ks[j]? = some a → grow G H HX (fun a => a = ka ∨ a = sa ∨ a = wa) a = some (.lst (Z8.map V.int)) := fun j a ha => by
      obtain ⟨l, e, hl3, hl6⟩ := r4 j (.ref a) (by rw [hks, List.getElem?_map, ha]; rfl)
      cases e
      have hap : a ≠ p := fun e => by rw [e, p2] at hl3; cases hl3
      have ha0 : H a = none := Classical.byContradiction fun h => a2 a h hl3
      refine grow_new (fresh_back g0 ha0) ha0 ?_ (toX a _ hl6 hap)
      rintro (e | e | e)
      · rw [e, k4, hks] at hl6
        cases ks with
        | nil => simp at ha
        | cons c r => simp [Z8] at hl6
      · rw [e, hs7] at hl6
        cases hl6
      · rw [e] at hl6
        have := x7 _ _ hl6 hwp
        rw [hw9] at this
        cases this
    have ap : H p ≠ none := by rw [ho]; exact fun z => by cases z
    refine q (grow G H HX fun a => a = ka ∨ a = sa ∨ a = wa) ka sa wa HX ⟨grow_ex, fun a h g => grow_no h g, a12⟩ (fun a o h hp => x12 _ _ (f9 a o h hp) hp)
      ⟨grow_sub g12, grow_no ap gp, grow_X (.inl rfl) (fresh_back g0 k0), grow_X (.inr (.inl rfl)) (fresh_back g0 s0), grow_X (.inr (.inr rfl)) (fresh_back g0 w0), hsk, hwk, hws, ⟨dx, p12⟩, ⟨ks, by rw [← hks]; exact toX _ _ k4 hkp, hkl, row⟩, ⟨ks, by rw [← hks]; exact x12 _ _ (x9 _ _ s7 hsp) hsp, hkl, row⟩, ⟨[], x12 _ _ w9 hwp, rfl, fun i t w' ht => by simp at ht⟩, h0, h1, Nat.zero_le _, fun w' hw' => absurd hw' List.not_mem_nil, fun _ => rfl⟩
end

end K68D

set_option Elab.async false
set_option linter.all false
set_option maxRecDepth 100000
set_option maxHeartbeats 4000000
namespace K68
open PySem PySem.Spec PyProof.Rows L2 Evl LK LT LG LS LQ LX LO LN LP LH LV LZ LW StX
/-! ### names: digits of base 40 -/
def alpha : Str := "abcdefghijklmnopqrstuvwxyz0123456789._-"
def AL : List Nat := alpha.cps.toList
def ix (c : Nat) : Nat := AL.idxOf c
theorem al_len : alpha.length = 39 := by decide +kernel
theorem al_find : ∀ c ∈ AL, Txt.find alpha ⟨#[c]⟩ = (ix c : Int) := by decide +kernel
theorem al_index : ∀ c ∈ AL, Txt.index0 alpha ⟨#[c]⟩ = some (ix c) := by decide +kernel
theorem ix_lt : ∀ c ∈ AL, ix c < 39 := by decide +kernel
theorem ix_inj : ∀ c ∈ AL, ∀ d ∈ AL, ix c = ix d → c = d := by decide +kernel
/-- the digits of l, n places -/
def vl : Nat → List Nat → Int
  | _, [] => 0
  | 0, _ :: _ => 0
  | n + 1, c :: r => ((ix c : Int) + 1) * 40 ^ n + vl n r
def hw (a : Int) (l : List Nat) : Int := l.foldl (fun w c => w * 40 + (ix c : Int) + 1) a
theorem hw_vl : ∀ (l : List Nat) (n : Nat) (a : Int), l.length ≤ n → hw a l * 40 ^ (n - l.length) = a * 40 ^ n + vl n l
  | [], n, a, _ => by
    show a * 40 ^ (n - 0) = a * 40 ^ n + vl n []
    have : vl n [] = 0 := by cases n <;> rfl
    rw [this, Nat.sub_zero, Int.add_zero]
  | c :: r, 0, a, h => by simp at h
  | c :: r, n + 1, a, h => by
    have ih := hw_vl r n (a * 40 + (ix c : Int) + 1) (by simpa using h)
    show hw (a * 40 + (ix c : Int) + 1) r * 40 ^ (n + 1 - (r.length + 1)) = a * 40 ^ (n + 1) + (((ix c : Int) + 1) * 40 ^ n + vl n r)
    rw [Nat.add_sub_add_right, ih, Int.pow_succ]
    generalize (40 : Int) ^ n = p
    rw [Int.add_assoc, Int.add_mul, Int.mul_assoc, Int.mul_comm 40 p, Int.add_assoc]
theorem p40 (n : Nat) : (0 : Int) < 40 ^ n := Int.pow_pos (by decide)
theorem vl_bounds : ∀ (l : List Nat) (n : Nat), l.length ≤ n → (∀ c ∈ l, c ∈ AL) → 0 ≤ vl n l ∧ vl n l < 40 ^ n
  | [], n, _, _ => by
    have : vl n [] = 0 := by cases n <;> rfl
    rw [this]
    exact ⟨Int.le_refl _, p40 n⟩
  | c :: r, 0, h, _ => by simp at h
  | c :: r, n + 1, h, hA => by
    obtain ⟨h1, h2⟩ := vl_bounds r n (by simpa using h) fun d hd => hA d (List.mem_cons_of_mem _ hd)
    have hc := ix_lt c (hA c List.mem_cons_self)
    show 0 ≤ ((ix c : Int) + 1) * 40 ^ n + vl n r ∧ ((ix c : Int) + 1) * 40 ^ n + vl n r < 40 ^ (n + 1)
    have hp := p40 n
    rw [Int.pow_succ]
    generalize (40 : Int) ^ n = p at *
    have m1 : ((ix c : Int) + 1) * p ≤ 39 * p := Int.mul_le_mul_of_nonneg_right (by omega) (by omega)
    have m2 : 0 ≤ ((ix c : Int) + 1) * p := Int.mul_nonneg (by omega) (by omega)
    omega
/-- by the first place where they differ -/
def ordL : List Nat → List Nat → Int
  | [], s => -(s.length : Int)
  | c :: r, [] => ((c :: r).length : Int)
  | c :: r, d :: s => if (ix c : Int) = (ix d : Int) then ordL r s else (ix c : Int) - (ix d : Int)
theorem ord_vl : ∀ (l m : List Nat) (n : Nat), l.length ≤ n → m.length ≤ n → (∀ c ∈ l, c ∈ AL) → (∀ c ∈ m, c ∈ AL) → (ordL l m = 0 ↔ vl n l = vl n m) ∧ (ordL l m < 0 ↔ vl n l < vl n m)
  | [], [], n, _, _, _, _ => by simp [ordL]
  | [], d :: s, 0, _, h, _, _ => by simp at h
  | c :: r, [], 0, h, _, _, _ => by simp at h
  | [], d :: s, n + 1, _, h, _, hm => by
    obtain ⟨h1, h2⟩ := vl_bounds s n (by simpa using h) fun x hx => hm x (List.mem_cons_of_mem _ hx)
    have hp := p40 n
    show (-((d :: s).length : Int) = 0 ↔ (0 : Int) = ((ix d : Int) + 1) * 40 ^ n + vl n s) ∧ (-((d :: s).length : Int) < 0 ↔ (0 : Int) < ((ix d : Int) + 1) * 40 ^ n + vl n s)
    generalize (40 : Int) ^ n = p at *
    have m2 : 1 * p ≤ ((ix d : Int) + 1) * p := Int.mul_le_mul_of_nonneg_right (by omega) (by omega)
    simp only [List.length_cons]
    omega
  | c :: r, [], n + 1, h, _, hl, _ => by
    obtain ⟨h1, h2⟩ := vl_bounds r n (by simpa using h) fun x hx => hl x (List.mem_cons_of_mem _ hx)
    have hp := p40 n
    show (((c :: r).length : Int) = 0 ↔ ((ix c : Int) + 1) * 40 ^ n + vl n r = (0 : Int)) ∧ (((c :: r).length : Int) < 0 ↔ ((ix c : Int) + 1) * 40 ^ n + vl n r < (0 : Int))
    generalize (40 : Int) ^ n = p at *
    have m2 : 1 * p ≤ ((ix c : Int) + 1) * p := Int.mul_le_mul_of_nonneg_right (by omega) (by omega)
    simp only [List.length_cons]
    omega
  | c :: r, d :: s, 0, h, _, _, _ => by simp at h
  | c :: r, d :: s, n + 1, h, h', hl, hm => by
    obtain ⟨h1, h2⟩ := vl_bounds r n (by simpa using h) fun x hx => hl x (List.mem_cons_of_mem _ hx)
    obtain ⟨h3, h4⟩ := vl_bounds s n (by simpa using h') fun x hx => hm x (List.mem_cons_of_mem _ hx)
    obtain ⟨i1, i2⟩ := ord_vl r s n (by simpa using h) (by simpa using h') (fun x hx => hl x (List.mem_cons_of_mem _ hx)) fun x hx => hm x (List.mem_cons_of_mem _ hx)
    have hp := p40 n
    show ((if (ix c : Int) = (ix d : Int) then ordL r s else (ix c : Int) - (ix d : Int)) = 0 ↔ ((ix c : Int) + 1) * 40 ^ n + vl n r = ((ix d : Int) + 1) * 40 ^ n + vl n s) ∧
      ((if (ix c : Int) = (ix d : Int) then ordL r s else (ix c : Int) - (ix d : Int)) < 0 ↔ ((ix c : Int) + 1) * 40 ^ n + vl n r < ((ix d : Int) + 1) * 40 ^ n + vl n s)
    generalize (40 : Int) ^ n = p at *
    by_cases e : (ix c : Int) = (ix d : Int)
    · rw [if_pos e, e, i1, i2]
      generalize ((ix d : Int) + 1) * p = z
      omega
    · rw [if_neg e]
      rcases Int.lt_or_gt_of_ne e with g | g
      · have m1 : ((ix c : Int) + 1 + 1) * p ≤ ((ix d : Int) + 1) * p := Int.mul_le_mul_of_nonneg_right (by omega) (by omega)
        rw [Int.add_mul ((ix c : Int) + 1), Int.one_mul] at m1
        omega
      · have m1 : ((ix d : Int) + 1 + 1) * p ≤ ((ix c : Int) + 1) * p := Int.mul_le_mul_of_nonneg_right (by omega) (by omega)
        rw [Int.add_mul ((ix d : Int) + 1), Int.one_mul] at m1
        omega
/-- a name -/
def Nm (z : Str) : Prop := 1 ≤ z.cps.toList.length ∧ z.cps.toList.length ≤ 11 ∧ (∀ c ∈ z.cps.toList, c ∈ AL) ∧ ∃ c ∈ z.cps.toList, c ≠ 46
theorem str_len (z : Str) : z.length = z.cps.toList.length := Array.length_toList.symm
/-! ### the digits of a word -/
def dig (l : List Nat) (k : Nat) : Nat := match l[k]? with
  | some c => ix c + 1
  | none => 0
def pw (l : List Nat) : Nat → Int
  | 0 => 0
  | k + 1 => pw l k * 40 + (dig l k : Int)
theorem dig_lt {l : List Nat} (hA : ∀ c ∈ l, c ∈ AL) (k : Nat) : dig l k < 40 := by
  unfold dig
  cases h : l[k]? with
  | none => exact (by decide : 0 < 40)
  | some c =>
    have := ix_lt c (hA c (List.mem_of_getElem? h))
    show ix c + 1 < 40
    omega
theorem pw_vl (l : List Nat) (n : Nat) (hn : l.length ≤ n) : ∀ k, k ≤ n → pw l k * 40 ^ (n - k) + vl (n - k) (l.drop k) = vl n l
  | 0, _ => by
    show 0 * 40 ^ (n - 0) + vl (n - 0) (l.drop 0) = vl n l
    rw [Int.zero_mul, Int.zero_add]
    rfl
  | k + 1, hk => by
    have ih := pw_vl l n hn k (by omega)
    rw [← ih]
    have e : n - k = (n - (k + 1)) + 1 := by omega
    show (pw l k * 40 + (dig l k : Int)) * 40 ^ (n - (k + 1)) + vl (n - (k + 1)) (l.drop (k + 1)) = _
    rw [e, Int.pow_succ]
    generalize (n - (k + 1)) = m at *
    by_cases hl : k < l.length
    · rw [List.drop_eq_getElem_cons hl]
      have hd : dig l k = ix l[k] + 1 := by
        unfold dig
        rw [List.getElem?_eq_getElem hl]
      rw [hd]
      show _ = pw l k * (40 ^ m * 40) + (((ix l[k] : Int) + 1) * 40 ^ m + vl m (l.drop (k + 1)))
      generalize (40 : Int) ^ m = p
      rw [Int.add_mul, Int.mul_assoc, Int.mul_comm 40 p]
      push_cast
      omega
    · have h1 : l.drop k = [] := List.drop_eq_nil_of_le (by omega)
      have h2 : l.drop (k + 1) = [] := List.drop_eq_nil_of_le (by omega)
      have hd : dig l k = 0 := by
        unfold dig
        rw [List.getElem?_eq_none (by omega)]
      have z1 : vl m [] = 0 := by cases m <;> rfl
      have z2 : vl (m + 1) [] = 0 := rfl
      rw [h1, h2, hd, z1, z2]
      generalize (40 : Int) ^ m = p
      rw [show (((0 : Nat) : Int)) = 0 from rfl]
      simp only [Int.add_zero]
      rw [Int.mul_assoc, Int.mul_comm 40 p]
theorem pw_all {l : List Nat} (h : l.length ≤ 11) : pw l 11 = vl 11 l := by
  have e := pw_vl l 11 h 11 (Nat.le_refl _)
  have z : l.drop 11 = [] := List.drop_eq_nil_of_le h
  rw [z] at e
  have z1 : vl (11 - 11) [] = 0 := rfl
  rw [z1, show 11 - 11 = 0 from rfl, Int.pow_zero, Int.mul_one, Int.add_zero] at e
  exact e
/-- the first k digits of a word that a name has -/
theorem word_hi {l : List Nat} (h : l.length ≤ 11) (hA : ∀ c ∈ l, c ∈ AL) (k : Nat) (hk : k ≤ 11) : vl 11 l / 40 ^ (11 - k) = pw l k := by
  have e := pw_vl l 11 h k hk
  obtain ⟨b1, b2⟩ := vl_bounds (l.drop k) (11 - k) (by rw [List.length_drop]; omega) fun c hc => hA c (List.mem_of_mem_drop hc)
  rw [← e]
  have hp := p40 (11 - k)
  generalize (40 : Int) ^ (11 - k) = p at *
  generalize vl (11 - k) (l.drop k) = r at *
  rw [Int.mul_comm, Int.mul_add_ediv_left _ _ (by omega), Int.ediv_eq_zero_of_lt b1 b2, Int.add_zero]
theorem word_dig {l : List Nat} (h : l.length ≤ 11) (hA : ∀ c ∈ l, c ∈ AL) (k : Nat) (hk : k < 11) : vl 11 l / 40 ^ (10 - k) % 40 = (dig l k : Int) := by
  have e := word_hi h hA (k + 1) hk
  rw [show 11 - (k + 1) = 10 - k by omega] at e
  rw [e]
  show (pw l k * 40 + (dig l k : Int)) % 40 = _
  have := dig_lt hA k
  omega
/-- a word below 40 ^ 11 with these digits is the word -/
theorem word_of {l : List Nat} {w : Int} (h : l.length ≤ 11) (h0 : 0 ≤ w) (h1 : w < 40 ^ 11) (hd : ∀ k, k < 11 → w / 40 ^ (10 - k) % 40 = (dig l k : Int)) : w = vl 11 l := by
  have st : ∀ k, k ≤ 11 → w / 40 ^ (11 - k) = pw l k := by
    intro k
    induction k with
    | zero => exact fun _ => Int.ediv_eq_zero_of_lt h0 h1
    | succ k ih =>
      intro hk
      have i := ih (by omega)
      have d := hd k (by omega)
      rw [show 11 - (k + 1) = 10 - k by omega]
      show w / 40 ^ (10 - k) = pw l k * 40 + (dig l k : Int)
      rw [← i, ← d]
      have q : w / 40 ^ (11 - k) = w / 40 ^ (10 - k) / 40 := by
        rw [Int.ediv_ediv_of_nonneg (Int.le_of_lt (p40 _)), show 11 - k = (10 - k) + 1 by omega, Int.pow_succ]
      rw [q]
      omega
  have e := st 11 (Nat.le_refl _)
  rw [show 11 - 11 = 0 from rfl, Int.pow_zero, Int.ediv_one, pw_all h] at e
  exact e
/-- by the digits the name -/
theorem dig_inj : ∀ {l m : List Nat}, (∀ c ∈ l, c ∈ AL) → (∀ c ∈ m, c ∈ AL) → (∀ k, dig l k = dig m k) → l = m
  | [], [], _, _, _ => rfl
  | [], d :: s, _, _, h => by
    have q := h 0
    simp [dig] at q
  | c :: r, [], _, _, h => by
    have q := h 0
    simp [dig] at q
  | c :: r, d :: s, hl, hm, h => by
    have q : ix c + 1 = ix d + 1 := h 0
    rw [ix_inj c (hl c List.mem_cons_self) d (hm d List.mem_cons_self) (by omega), dig_inj (fun x hx => hl x (List.mem_cons_of_mem _ hx)) (fun x hx => hm x (List.mem_cons_of_mem _ hx)) fun k => h (k + 1)]
def W (l : List Nat) : Int := vl 11 l
theorem W_inj {y z : Str} (hy : Nm y) (hz : Nm z) (e : W y.cps.toList = W z.cps.toList) : y.cps.toList = z.cps.toList := by
  refine dig_inj hy.2.2.1 hz.2.2.1 fun k => ?_
  by_cases hk : k < 11
  · have a := word_dig hy.2.1 hy.2.2.1 k hk
    have b := word_dig hz.2.1 hz.2.2.1 k hk
    unfold W at e
    rw [e, b] at a
    omega
  · have a : y.cps.toList[k]? = none := List.getElem?_eq_none (by have := hy.2.1; omega)
    have b : z.cps.toList[k]? = none := List.getElem?_eq_none (by have := hz.2.1; omega)
    unfold dig
    rw [a, b]
/-- what a name may begin with -/
def Hd (z : Str) : Prop := z.cps.toList.length ≤ 11 ∧ ∀ c ∈ z.cps.toList, c ∈ AL
theorem app_list (i j : Str) : (i ++ j).cps.toList = i.cps.toList ++ j.cps.toList := by
  show (i.cps ++ j.cps).toList = _
  simp
theorem one_list (c : Nat) : (⟨#[c]⟩ : Str).cps.toList = [c] := rfl
theorem str_ext {y z : Str} (h : y.cps.toList = z.cps.toList) : y = z := by
  cases y with
  | mk a => cases z with
    | mk b => exact congrArg Str.mk (Array.toList_inj.mp h)
theorem fold_app (k : Nat) (l acc : Array Nat) : ((List.replicate k l).foldl (· ++ ·) acc).toList = acc.toList ++ (List.replicate k l.toList).flatten := by
  induction k generalizing acc with
  | zero => simp
  | succ k ih =>
    rw [List.replicate_succ, List.foldl_cons, ih, List.replicate_succ, List.flatten_cons, Array.toList_append, List.append_assoc]
theorem mul_dots (n : Nat) : (Txt.mul (Str.ofString ".") (n : Int)).cps.toList = List.replicate n 46 := by
  have e : (Str.ofString ".").cps.toList = [46] := by decide +kernel
  have e1 : ((Str.ofString ".").length == 0) = false := by decide +kernel
  unfold Txt.mul
  by_cases h : (n : Int) < 1
  · rw [if_pos h]
    have : n = 0 := by omega
    subst this
    rfl
  · rw [if_neg h]
    by_cases h1 : (n : Int) = 1
    · have : n = 1 := by omega
      subst this
      rw [if_pos (by simp)]
      exact e
    · rw [if_neg (by rw [e1]; simpa using h1)]
      show ((List.replicate (n : Int).toNat (Str.ofString ".").cps).foldl (· ++ ·) #[]).toList = _
      rw [fold_app, e, Int.toNat_natCast]
      show [] ++ (List.replicate n [46]).flatten = _
      rw [List.nil_append]
      induction n with
      | zero => rfl
      | succ k ih => exact flat_ones (k + 1)
where
  flat_ones : ∀ k : Nat, (List.replicate k [46]).flatten = List.replicate k 46
    | 0 => rfl
    | k + 1 => by
      rw [List.replicate_succ, List.flatten_cons, flat_ones k, List.replicate_succ]
      rfl
theorem dots_nm {z : Str} (h : Hd z) (h1 : 1 ≤ z.cps.toList.length) (hne : ¬ z = Txt.mul (Str.ofString ".") (z.length : Int)) : Nm z := by
  refine ⟨h1, h.1, h.2, Classical.byContradiction fun hc => hne (str_ext ?_)⟩
  rw [str_len, mul_dots]
  exact List.eq_replicate_iff.mpr ⟨rfl, fun c hm => Classical.byContradiction fun e => hc ⟨c, hm, e⟩⟩
theorem cut_tail (z : Str) : (cutS z (some 1) none).cps.toList = z.cps.toList.drop 1 := by
  unfold cutS
  rw [show HT.sIx z.length 0 (some 1) = min 1 z.length from HT.sIx_nat z.length 0 1, HT.sIx_none, str_len]
  show (z.cps.toList.drop (min 1 z.cps.toList.length)).take _ = _
  rw [List.take_of_length_le (by rw [List.length_drop]; omega)]
  cases z.cps.toList with
  | nil => rfl
  | cons c r => rw [Nat.min_eq_left (by simp)]
theorem cut_head (z : Str) (k : Nat) : (cutS z none (some (k : Int))).cps.toList = z.cps.toList.take k := by
  unfold cutS
  rw [HT.sIx_nat, HT.sIx_none, str_len]
  show (z.cps.toList.drop 0).take _ = _
  rw [List.drop_zero, Nat.sub_zero, List.take_eq_take_iff]
  omega
theorem a_in : (97 : Nat) ∈ AL := by decide +kernel
theorem a_str : (Str.ofString "a").cps.toList = [97] := by decide +kernel
theorem small {z : Str} (h : z.cps.toList.length ≤ 100) : z.length ≤ sizeLine := by
  rw [str_len]
  exact Nat.le_trans h (by decide)
theorem find_out {c : Nat} (h : c ∉ AL) : Txt.find alpha ⟨#[c]⟩ = -1 := by
  have e := PySem.StrLaws.found_one alpha c
  rw [decide_eq_false (show ¬ c ∈ alpha.cps.toList from h)] at e
  unfold Txt.find
  cases q : Builtin.Str.occurrences alpha ⟨#[c]⟩ 0 alpha.length 1 with
  | nil => rfl
  | cons i r =>
    rw [q] at e
    cases e
def nmB (l : List Nat) : Bool := (decide (1 ≤ l.length) && decide (l.length ≤ 11)) && ((l.all fun c => decide (c ∈ AL)) && l.any fun c => [c] != [46])
theorem nm_iff (z : Str) : Nm z ↔ nmB z.cps.toList = true := by
  unfold Nm nmB
  simp only [Bool.and_eq_true, decide_eq_true_eq, List.all_eq_true, List.any_eq_true]
  constructor
  · rintro ⟨h1, h2, h3, c, hc, hn⟩
    exact ⟨⟨h1, h2⟩, h3, c, hc, by simpa using hn⟩
  · rintro ⟨⟨h1, h2⟩, h3, c, hc, hn⟩
    exact ⟨h1, h2, h3, c, hc, by simpa using hn⟩
/-- all dots -/
theorem dots_iff (z : Str) : z = Txt.mul (Str.ofString ".") (z.length : Int) ↔ ∀ c ∈ z.cps.toList, c = 46 := by
  constructor
  · intro e c hc
    have h : z.cps.toList = List.replicate z.length 46 := by
      have q : z.cps.toList = (Txt.mul (Str.ofString ".") (z.length : Int)).cps.toList := congrArg (fun s : Str => s.cps.toList) e
      rw [mul_dots] at q
      exact q
    rw [h] at hc
    exact (List.mem_replicate.mp hc).2
  · intro h
    refine str_ext ?_
    rw [str_len, mul_dots]
    exact List.eq_replicate_iff.mpr ⟨rfl, h⟩

def top (i : Nat) : Stmt := PySem.Challenge.pw_laminae_k68_whole_torn_logs.main.body.getD i (.Pass ⟨0, 0, 0, 0⟩)
abbrev sIw : Stmt := top 12
theorem scIw : FnScope ["value"] ["value"] (defScope sIw) := ⟨rfl, rfl, rfl, by decide +kernel, rfl, by decide +kernel, by decide +kernel⟩
abbrev sIs : Stmt := top 14
theorem scIs : FnScope ["name"] ["name"] (defScope sIs) := ⟨rfl, rfl, rfl, by decide +kernel, rfl, by decide +kernel, by decide +kernel⟩
abbrev sWord : Stmt := top 15
theorem scWord : FnScope ["name", "word", "letter", "_"] ["name"] (defScope sWord) := ⟨rfl, rfl, rfl, by decide +kernel, rfl, by decide +kernel, by decide +kernel⟩
abbrev sWn : Stmt := top 16
theorem scWn : FnScope ["word", "name", "rest", "_", "digit"] ["word"] (defScope sWn) := ⟨rfl, rfl, rfl, by decide +kernel, rfl, by decide +kernel, by decide +kernel⟩
abbrev sOw : Stmt := top 33
theorem scOw : FnScope ["owner"] ["owner"] (defScope sOw) := ⟨rfl, rfl, rfl, by decide +kernel, rfl, by decide +kernel, by decide +kernel⟩
abbrev sInw : Stmt := top 54
theorem scInw : FnScope ["word"] ["word"] (defScope sInw) := ⟨rfl, rfl, rfl, by decide +kernel, rfl, by decide +kernel, by decide +kernel⟩
abbrev sFld : Stmt := top 55
theorem scFld : FnScope ["what", "word"] ["what", "word"] (defScope sFld) := ⟨rfl, rfl, rfl, by decide +kernel, rfl, by decide +kernel, by decide +kernel⟩
abbrev sBnd : Stmt := top 56
theorem scBnd : FnScope ["kind", "words", "_", "first", "at", "units"] ["kind", "words"] (defScope sBnd) := ⟨rfl, rfl, rfl, by decide +kernel, rfl, by decide +kernel, by decide +kernel⟩
abbrev sChk : Stmt := top 57
theorem scChk : FnScope ["words", "kind", "rest", "fields", "word", "what"] ["words"] (defScope sChk) := ⟨rfl, rfl, rfl, by decide +kernel, rfl, by decide +kernel, by decide +kernel⟩
abbrev sPf : Stmt := top 47
theorem scPf : FnScope ["many"] ["many"] (defScope sPf) := ⟨rfl, rfl, rfl, by decide +kernel, rfl, by decide +kernel, by decide +kernel⟩
abbrev sSo : Stmt := top 48
theorem scSo : FnScope ["intent"] ["intent"] (defScope sSo) := ⟨rfl, rfl, rfl, by decide +kernel, rfl, by decide +kernel, by decide +kernel⟩
abbrev sRs : Stmt := top 49
theorem scRs : FnScope ["intent", "record", "generation", "parts", "words", "padded", "sectors", "part", "start"] ["intent", "record", "generation"] (defScope sRs) := ⟨rfl, rfl, rfl, by decide +kernel, rfl, by decide +kernel, by decide +kernel⟩
abbrev sIwh : Stmt := top 51
theorem scIwh : FnScope ["sectors", "record", "generation", "parts", "part", "words"] ["sectors", "record", "generation"] (defScope sIwh) := ⟨rfl, rfl, rfl, by decide +kernel, rfl, by decide +kernel, by decide +kernel⟩
abbrev sRr : Stmt := top 52
theorem scRr : FnScope ["sectors", "words", "sector", "end", "intent"] ["sectors"] (defScope sRr) := ⟨rfl, rfl, rfl, by decide +kernel, rfl, by decide +kernel, by decide +kernel⟩
abbrev sWre : Stmt := top 53
theorem scWre : FnScope ["sectors", "generation", "intents", "at", "end"] ["sectors", "generation"] (defScope sWre) := ⟨rfl, rfl, rfl, by decide +kernel, rfl, by decide +kernel, by decide +kernel⟩
abbrev sLin : Stmt := inClass (top 50) 0
theorem scLin : FnScope ["self", "generation"] ["self", "generation"] (defScope sLin) := ⟨rfl, rfl, rfl, by decide +kernel, rfl, by decide +kernel, by decide +kernel⟩
abbrev sFits : Stmt := inClass (top 50) 1
theorem scFits : FnScope ["self", "intents", "intent"] ["self", "intents"] (defScope sFits) := ⟨rfl, rfl, rfl, by decide +kernel, rfl, by decide +kernel, by decide +kernel⟩
abbrev sApp : Stmt := inClass (top 50) 2
theorem scApp : FnScope ["self", "intents", "writes", "intent", "words"] ["self", "intents"] (defScope sApp) := ⟨rfl, rfl, rfl, by decide +kernel, rfl, by decide +kernel, by decide +kernel⟩
abbrev sCl : Stmt := top 59
theorem scCl : FnScope ["script", "k"] ["script", "k"] (defScope sCl) := ⟨rfl, rfl, rfl, by decide +kernel, rfl, by decide +kernel, by decide +kernel⟩
abbrev sDg : Stmt := top 60
theorem scDg : FnScope ["cell", "bases", "digits", "rest", "base", "mixed"] ["cell", "bases"] (defScope sDg) := ⟨rfl, rfl, rfl, by decide +kernel, rfl, by decide +kernel, by decide +kernel⟩
abbrev sIn : Stmt := top 61
theorem scIn : FnScope ["cell", "most", "digits", "words", "kind", "inode", "other", "main", "size", "cells", "k"] ["cell", "most"] (defScope sIn) := ⟨rfl, rfl, rfl, by decide +kernel, rfl, by decide +kernel, by decide +kernel⟩
abbrev sOld : Stmt := top 62
theorem scOld : FnScope ["disk", "cell", "generation", "sector", "record", "k", "intent", "rows", "row"] ["disk", "cell", "generation"] (defScope sOld) := ⟨rfl, rfl, rfl, by decide +kernel, rfl, by decide +kernel, by decide +kernel⟩
abbrev sAp : Stmt := top 63
theorem scAp : FnScope ["disk", "log", "intents", "sector", "words"] ["disk", "log", "intents"] (defScope sAp) := ⟨rfl, rfl, rfl, by decide +kernel, rfl, by decide +kernel, by decide +kernel⟩
abbrev sCho : Stmt := top 64
theorem scCho : FnScope ["cell", "digits"] ["cell"] (defScope sCho) := ⟨rfl, rfl, rfl, by decide +kernel, rfl, by decide +kernel, by decide +kernel⟩
abbrev sLdu : Stmt := top 65
theorem scLdu : FnScope ["intents", "choices", "due", "at", "intent", "parts"] ["intents", "choices"] (defScope sLdu) := ⟨rfl, rfl, rfl, by decide +kernel, rfl, by decide +kernel, by decide +kernel⟩
abbrev sLaw : Stmt := top 66
theorem scLaw : FnScope ["script", "generation", "disk", "log", "batches", "used", "split", "k", "intent", "many", "choices", "sectors"] ["script"] (defScope sLaw) := ⟨rfl, rfl, rfl, by decide +kernel, rfl, by decide +kernel, by decide +kernel⟩
def wordsOf : Wks := [(1, ["name", "inode", "name", "kind", "owner"]), (2, ["name", "inode", "inode", "name"]), (3, ["name", "inode", "name"]), (4, ["name", "inode", "name"]), (5, ["name", "inode", "name", "inode", "name"]), (6, ["name", "inode", "word"]), (7, ["name", "inode", "word"]), (8, ["name", "inode", "word", "inode", "word", "word"]), (9, ["name", "inode", "owner"]), (10, ["name", "inode"])]
structure Txt (mg : Str → Option Value) (K : PySem.W.Frag) (tA : Tok) (aW : Addr) : Prop where
  len : mg "len" = none
  range : mg "range" = none
  isinstance : mg "isinstance" = none
  bool : mg "bool" = none
  int : mg "int" = none
  all : mg "all" = none
  any : mg "any" = none
  divmod : mg "divmod" = none
  zip : mg "zip" = none
  tuple : mg "tuple" = none
  list : mg "list" = none
  min : mg "min" = none
  str : mg "str" = none
  gGROUP_WORDS : ∃ t, mg "GROUP_WORDS" = some (.int 4 t)
  gBASE : ∃ t, mg "BASE" = some (.int 40 t)
  gLONGEST_NAME : ∃ t, mg "LONGEST_NAME" = some (.int 11 t)
  gFILE : ∃ t, mg "FILE" = some (.int 1 t)
  gDIRECTORY : ∃ t, mg "DIRECTORY" = some (.int 2 t)
  gMAX_CELLS : ∃ t, mg "MAX_CELLS" = some (.int 2048 t)
  gMAX_UNITS : ∃ t, mg "MAX_UNITS" = some (.int 64 t)
  gGREATEST_OWNER : ∃ t, mg "GREATEST_OWNER" = some (.int 255 t)
  gWRITE : ∃ t, mg "WRITE" = some (.int 6 t)
  gRESIZE : ∃ t, mg "RESIZE" = some (.int 7 t)
  gSHARE : ∃ t, mg "SHARE" = some (.int 8 t)
  gALPHABET : mg "ALPHABET" = some (.str alpha tA)
  gWORDS : mg "WORDS_OF" = some (.ref aW)
  dW : WI K aW wordsOf
def spIw : Sp := fun vs H Q _ => ∃ i : Int, vs = [.int i] ∧ RetV (.bl (decide (0 ≤ i))) H Q
def spIs (Pt : Addr) : Sp := fun vs H Q _ => ∃ z : Str, vs = [.str z] ∧ z.cps.toList.length ≤ 100 ∧ Tab H Pt ∧ RetV (.bl (nmB z.cps.toList)) H Q
/-- returns the word of a name, raises BadName for any other text -/
def spWord (Pt CB : Addr) : Sp := fun vs H Q E => ∃ z : Str, vs = [.str z] ∧ z.cps.toList.length ≤ 100 ∧ Tab H Pt ∧ (Nm z → RetV (.int (W z.cps.toList)) H Q) ∧ (¬ Nm z → ∀ H', Ex H H' → E (.ref CB) none H')
/-- returns the name that has the word, raises BadName if there is none -/
def spWn (Pt CB : Addr) : Sp := fun vs H Q E => ∃ i : Int, vs = [.int i] ∧ Tab H Pt ∧ (∀ z : Str, Nm z → W z.cps.toList = i → RetV (.str z) H Q) ∧ ((¬ ∃ z : Str, Nm z ∧ W z.cps.toList = i) → ∀ H', Ex H H' → E (.ref CB) none H')
section
variable {P : Program} {w : World} {K : PySem.W.Frag} {mg : Str → Option Value} {base : Heap} {tA : Tok} {aW : Addr}
theorem ok_iw {f : Addr} {fd : FuncData} (F : Fun K "is_word" "is_word" sIw f fd) (T : Txt mg K tA aW) : FnOk P w K mg base CX0 1 f fd ["value"] spIw := by
  refine F.ok scIw (fun vs H Q E h => ?_) (fun cdv A outer s H vs Q E hr h => ?_)
  · obtain ⟨i, rfl, _⟩ := h
    rfl
  · obtain ⟨i, rfl, q⟩ := h
    refine ⟨_, (pss_one (ps_ret (pe_and (pe_callB call_isi (by rfl) T.isinstance (by decide +kernel) (pa_cons (pv 0) (pa_cons (pe_bltn (v := .ty "int") (u := .type "int") (by rfl) T.int (by decide +kernel) rfl) pa_nil))) (pe_and (pe_not (pe_callB call_isi (by rfl) T.isinstance (by decide +kernel) (pa_cons (pv 0) (pa_cons (pe_bltn (v := .ty "bool") (u := .type "bool") (by rfl) T.bool (by decide +kernel) rfl) pa_nil)))) (pe_one (pe_cmpR op_ge (pv 0) pe_int (nomark _))))))), ?_⟩
    exact s_ret (ev_is (ev_andV (ev_isi (ev_var rfl) ev_c (fun _ _ => .base (.int i)) (kit_ty rfl)) (fun _ => ev_andV (ev_notV (ev_isi (ev_var rfl) ev_c (fun _ _ => .base (.int i)) (kit_ty rfl))) (fun _ => ev_op (ev_var rfl) ev_c rv_I0))) rfl) fun H1 e1 => q H1 e1
theorem ok_is {f c Pt : Addr} {fd : FuncData} (F : FunC K "is_name" "is_name" sIs f fd c) (TB : LamX.TabB base mg c Pt) (T : Txt mg K tA aW) : FnOk P w K mg base CX0 1 f fd ["name"] (spIs Pt) := by
  obtain ⟨_, gLONGEST_NAME⟩ := T.gLONGEST_NAME
  refine F.ok scIs (fun vs H Q E h => ?_) (fun A outer s H vs Q E hr h => ?_)
  · obtain ⟨z, rfl, _⟩ := h
    rfl
  · obtain ⟨z, rfl, hl, hT, q⟩ := h
    have hz : z.length = z.cps.toList.length := str_len z
    refine ⟨_, (pss_cons (ps_if (PW.pt (pw_or (pt_not (pt_val (pe_callB call_isi (by rfl) T.isinstance (by decide +kernel) (pa_cons (pv 0) (pa_cons (pe_bltn (v := .ty "str") (u := .type "str") (by rfl) T.str (by decide +kernel) rfl) pa_nil))))) (pw_or1 (pt_not (pt_chain op_le op_le pe_int (pe_callB call_len_str (by rfl) T.len (by decide +kernel) (pa_cons (pv 0) pa_nil)) (pe_glob (v := .int 11) rfl gLONGEST_NAME ⟨_, rfl⟩)))))) (pss_one (ps_ret pe_bl)) pss_nil)
      (pss_one (ps_ret (pe_and (pe_all hr (by rfl) T.all (by decide +kernel) TB rfl ⟨rfl, rfl, by decide +kernel, rfl, rfl, fun y hy e => absurd e ((by decide +kernel : ∀ y ∈ _, y.2 ≠ NameKind.free) y hy)⟩ (pv 0) (fun _ => rfl)) (pe_one (pe_any hr (by rfl) T.any TB rfl ⟨rfl, rfl, by decide +kernel, rfl, rfl, fun y hy e => absurd e ((by decide +kernel : ∀ y ∈ _, y.2 ≠ NameKind.free) y hy)⟩ (pv 0) (fun _ => rfl))))))), ?_⟩
    refine q_when (b := !(decide (1 ≤ z.cps.toList.length) && decide (z.cps.toList.length ≤ 11))) (et_is (et_or (et_not (et_B (ev_isi (ev_var rfl) ev_c (fun _ _ => .base (.str z)) (kit_ty rfl)))) (fun _ => et_not (et_chain ev_c (ev_lenS (ev_var rfl) (small hl)) ev_c))) (by
      rw [hz]
      show (false || !(decide ((1 : Int) ≤ (z.cps.toList.length : Int)) && decide ((z.cps.toList.length : Int) ≤ 11))) = _
      rw [Bool.false_or, show decide ((1 : Int) ≤ (z.cps.toList.length : Int)) = decide (1 ≤ z.cps.toList.length) from decide_eq_decide.mpr (by omega), show decide ((z.cps.toList.length : Int) ≤ 11) = decide (z.cps.toList.length ≤ 11) from decide_eq_decide.mpr (by omega)])) (fun hb H1 e1 => ?_) (fun hb H1 e1 => ?_)
    · have hf : nmB z.cps.toList = false := by
        unfold nmB
        cases hq : (decide (1 ≤ z.cps.toList.length) && decide (z.cps.toList.length ≤ 11)) with
        | false => rfl
        | true =>
          rw [hq] at hb
          cases hb
      rw [hf] at q
      exact s_ret ev_c fun H2 e2 => q H2 (e1.trans e2)
    · refine s_ret (ev_is (ev_andV (ev_gen (f := fun i => decide (z.cps.toList.getD i 0 ∈ AL)) (ev_var rfl) (hT.mono e1) (fun H2 _ => src_str z) (fun H2 e2 i u hi hu => qv_cmp qr_in_sign (qv_x rfl rfl hu) (qv_glob rfl rfl T.gALPHABET ⟨_, rfl⟩) rfl))
        (fun _ => ev_gen (f := fun i => [z.cps.toList.getD i 0] != [46]) (ev_var rfl) (hT.mono e1) (fun H2 _ => src_str z) (fun H2 e2 i u hi hu => qv_cmp qr_ne_str (qv_x rfl rfl hu) qv_str (nomark _)))) ?_) fun H2 e2 => q H2 (e1.trans e2)
      rw [allF_list z.cps.toList 0 (fun c => decide (c ∈ AL)), anyF_list z.cps.toList 0 (fun c => [c] != [46])]
      unfold nmB
      cases hq : (decide (1 ≤ z.cps.toList.length) && decide (z.cps.toList.length ≤ 11)) with
      | true => rw [Bool.true_and]
      | false =>
        rw [hq] at hb
        cases hb
theorem ok_word {f fI Pt CB : Addr} {fd fdI : FuncData} (F : Fun K "name_word" "name_word" sWord f fd) (FI : Fun K "is_name" "is_name" sIs fI fdI) (GI : FnOk P w K mg base CX0 1 fI fdI ["name"] (spIs Pt)) (bI : Binds K fdI ["name"] []) (gI : mg "is_name" = some (.ref fI)) (T : Txt mg K tA aW) (XB : Xc K mg "BadName" CB) : FnOk P w K mg base (L2.CX P w) 2 f fd ["name"] (spWord Pt CB) := by
  obtain ⟨_, gBASE⟩ := T.gBASE
  obtain ⟨_, gLONGEST_NAME⟩ := T.gLONGEST_NAME
  refine F.okX scWord (fun vs H Q E h => ?_) (fun cdv A outer s H vs Q E hr h => ?_)
  · obtain ⟨z, rfl, _⟩ := h
    rfl
  · obtain ⟨z, rfl, hl, hT, q, qE⟩ := h
    refine ⟨_, (pss_cons (ps_if (pt_not (pt_val (pe_call GI (hr.mono (by decide)) (by rfl) gI FI.kp bI .nil pass0 (pa_cons (pv 0) pa_nil)))) (pss_one (ps_raise0 rfl XB (takes_of rfl rfl rfl rfl) (by rfl))) pss_nil)
      (pss_cons (ps_set (i := 1) scWord.nd rfl (Or.inl rfl) pe_int)
      (pss_cons (ps_for (passes_of rfl) rfl (pi_str (pv 0)) (pg_name (i := 2) scWord.nd rfl (Or.inl rfl)) (pss_one (ps_set (i := 1) scWord.nd rfl (Or.inl rfl) (pe_op op_add (pe_op op_add (pe_op op_mul (pv 1) (pe_glob (v := .int 40) rfl gBASE ⟨_, rfl⟩)) (pe_bmS PySem.F.plainAttrs_str PySem.F.slot_str_index PySem.F.type_str_index (mt_indexX rfl takes0) (pe_glob (v := .str alpha) rfl T.gALPHABET ⟨_, rfl⟩) (pa_cons (pv 2) pa_nil))) pe_int))))
      (pss_cons (ps_for (passes_of rfl) rfl (pi_range1 (by rfl) T.range (pa_cons (pe_op op_sub (pe_glob (v := .int 11) rfl gLONGEST_NAME ⟨_, rfl⟩) (pe_callB call_len_str (by rfl) T.len (by decide +kernel) (pa_cons (pv 0) pa_nil))) pa_nil)) (pg_name (i := 3) scWord.nd rfl (Or.inl rfl)) (pss_one (ps_set (i := 1) scWord.nd rfl (Or.inl rfl) (pe_op op_mul (pv 1) (pe_glob (v := .int 40) rfl gBASE ⟨_, rfl⟩)))))
      (pss_one (ps_ret (pv 1))))))), ?_⟩
    refine q_when (et_not (et_B (ev_call (vs := [.str z]) (z := .bl (nmB z.cps.toList)) (ea_cons (ev_var rfl) ea_nil) (fun H1 e1 Q' q' E' => ⟨z, rfl, hl, hT.mono e1, q'⟩)))) (fun hb H1 e1 => ?_) (fun hb H1 e1 => ?_)
    · exact qE (fun hN => by rw [(nm_iff z).mp hN] at hb; cases hb) H1 e1
    · have hN : Nm z := (nm_iff z).mpr (by simpa using hb)
      replace q := q hN
      obtain ⟨n1, n2, n3, n4⟩ := id hN
      have hz : z.length = z.cps.toList.length := str_len z
      refine q_asg ev_c fun H2 e2 => ?_
      refine q_forS (ev_var rfl) (fun i σ' H' => ∃ y2, σ' = [some (.str z), some (.int (hw 0 (z.cps.toList.take i))), y2, none] ∧ Ex H H') (fun H3 e3 => ⟨none, rfl, (e1.trans e2).trans e3⟩) ?_ ?_
      · rintro i c σ' H' hc ⟨y2, rfl, e0⟩
        have hA := n3 c (List.mem_of_getElem? hc)
        refine s_asg (ev_is (ev_op (ev_op (ev_op (ev_var rfl) ev_c (rv_I (.inr ⟨by decide, by decide⟩))) (ev_index ev_c (ea_cons (ev_var rfl) ea_nil) (al_index c hA)) rv_I0) ev_c rv_I0) (w := .int (hw 0 (z.cps.toList.take (i + 1)))) ?_) fun H2 e2 => ⟨_, rfl, e0.trans e2⟩
        rw [List.take_add_one, hc]
        unfold hw
        rw [List.foldl_append]
        rfl
      · rintro σ' H' ⟨y2, rfl, e0⟩
        rw [List.take_length]
        have hn : (0 : Int) ≤ 11 - (z.length : Int) ∧ (11 : Int) - (z.length : Int) ≤ 100000 := by omega
        refine q_forR1 (n := 11 - (z.length : Int)) (ea_cons (ev_op ev_c (ev_lenS (ev_var rfl) (small hl)) rv_I0) ea_nil) hn (fun i σ' H' => ∃ y3, σ' = [some (.str z), some (.int (hw 0 z.cps.toList * 40 ^ i)), y2, y3] ∧ Ex H H') (fun H3 e3 => ⟨none, by rw [Int.pow_zero, Int.mul_one], e0.trans e3⟩) ?_ ?_
        · rintro i σ' H' hi ⟨y3, rfl, e0⟩
          refine s_asg (ev_is (ev_op (ev_var rfl) ev_c (rv_I (.inr ⟨by decide, by decide⟩))) (w := .int (hw 0 z.cps.toList * 40 ^ (i + 1))) (by rw [Int.pow_succ, Int.mul_assoc])) fun H2 e2 => ⟨_, rfl, e0.trans e2⟩
        · rintro σ' H' ⟨y3, rfl, e0⟩
          have e : hw 0 z.cps.toList * 40 ^ (11 - (z.length : Int)).toNat = W z.cps.toList := by
            have k := hw_vl z.cps.toList 11 0 n2
            rw [Int.zero_mul, Int.zero_add] at k
            rw [show (11 - (z.length : Int)).toNat = 11 - z.cps.toList.length by omega]
            exact k
          rw [e]
          exact s_ret (ev_var rfl) fun H2 e2 => q H2 (e0.trans e2)
end
theorem al_get : ∀ c ∈ AL, AL[ix c]? = some c := by decide +kernel
theorem al_n : AL.length = 39 := by decide +kernel
theorem dig_pos {l : List Nat} {k : Nat} (h : 0 < dig l k) : ∃ c, l[k]? = some c ∧ dig l k = ix c + 1 := by
  unfold dig at h ⊢
  cases e : l[k]? with
  | none =>
    rw [e] at h
    exact absurd h (by decide)
  | some c => exact ⟨c, rfl, rfl⟩
theorem dig_zero {l : List Nat} {k : Nat} (h : dig l k = 0) : l.length ≤ k := by
  unfold dig at h
  cases e : l[k]? with
  | none => exact List.getElem?_eq_none_iff.mp e
  | some c =>
    rw [e] at h
    cases h
section
variable {P : Program} {w : World} {K : PySem.W.Frag} {mg : Str → Option Value} {base : Heap} {tA : Tok} {aW : Addr}
theorem ok_wn {f fJ fW Pt CB : Addr} {fd fdJ fdW : FuncData} (F : Fun K "word_name" "word_name" sWn f fd) (FJ : Fun K "is_word" "is_word" sIw fJ fdJ) (bJ : Binds K fdJ ["value"] []) (gJ : mg "is_word" = some (.ref fJ)) (FW : Fun K "name_word" "name_word" sWord fW fdW) (GW : FnOk P w K mg base (L2.CX P w) 2 fW fdW ["name"] (spWord Pt CB)) (bW : Binds K fdW ["name"] []) (gW : mg "name_word" = some (.ref fW)) (T : Txt mg K tA aW) (XB : Xc K mg "BadName" CB) : FnOk P w K mg base (L2.CX P w) 3 f fd ["word"] (spWn Pt CB) := by
  obtain ⟨_, gBASE⟩ := T.gBASE
  obtain ⟨_, gLONGEST_NAME⟩ := T.gLONGEST_NAME
  have GJ : FnOk P w K mg base CX0 2 fJ fdJ ["value"] spIw := (ok_iw FJ T).mono (by decide)
  refine F.okX scWn (fun vs H Q E h => ?_) (fun cdv A outer s H vs Q E hr h => ?_)
  · obtain ⟨i, rfl, _⟩ := h
    rfl
  · obtain ⟨i, rfl, hT, q, qE⟩ := h
    refine ⟨_, (pss_cons (ps_if (pt_not (pt_val (pe_call GJ (hr.mono (by decide)) (by rfl) gJ FJ.kp bJ .nil pass0 (pa_cons (pv 0) pa_nil)))) (pss_one (ps_raise0 rfl XB (takes_of rfl rfl rfl rfl) (by rfl))) pss_nil)
      (pss_cons (ps_set (i := 1) scWn.nd rfl (Or.inl rfl) pe_str)
      (pss_cons (ps_set (i := 2) scWn.nd rfl (Or.inl rfl) (pv 0))
      (pss_cons (ps_for (passes_of rfl) rfl (pi_range1 (by rfl) T.range (pa_cons (pe_glob (v := .int 11) rfl gLONGEST_NAME ⟨_, rfl⟩) pa_nil)) (pg_name (i := 3) scWn.nd rfl (Or.inl rfl)) (pss_cons (ps_asg (pe_callB call_divmod (by rfl) T.divmod (by decide +kernel) (pa_cons (pv 2) (pa_cons (pe_glob (v := .int 40) rfl gBASE ⟨_, rfl⟩) pa_nil))) (pg_tup (by rfl) (pgs_cons (pg_name (i := 2) scWn.nd rfl (Or.inl rfl)) (pgs_cons (pg_name (i := 4) scWn.nd rfl (Or.inl rfl)) pgs_nil))))
      (pss_one (ps_if (pt_cmpR op_gt (pv 4) pe_int (nomark _)) (pss_one (ps_set (i := 1) scWn.nd rfl (Or.inl rfl) (pe_op op_add_str (pe_ix ix_str (pe_glob (v := .str alpha) rfl T.gALPHABET ⟨_, rfl⟩) (pe_op op_sub (pv 4) pe_int) (fun _ _ => rfl)) (pv 1)))) pss_nil))))
      (pss_cons (ps_if (pt_cmpR op_ne (pe_call GW hr (by rfl) gW FW.kp bW .nil (pass_own (takes_of rfl rfl rfl rfl)) (pa_cons (pv 1) pa_nil)) (pv 0) (nomark _)) (pss_one (ps_raise0 rfl XB (takes_of rfl rfl rfl rfl) (by rfl))) pss_nil)
      (pss_one (ps_ret (pv 1)))))))), ?_⟩
    refine q_when (et_not (et_B (ev_call (vs := [.int i]) (z := .bl (decide (0 ≤ i))) (ea_cons (ev_var rfl) ea_nil) (fun H1 e1 Q' q' E' => ⟨i, rfl, q'⟩)))) (fun hb H1 e1 => ?_) (fun hb H1 e1 => ?_)
    · refine qE (fun ⟨z, hz, hw⟩ => ?_) H1 e1
      have b := (vl_bounds z.cps.toList 11 hz.2.1 hz.2.2.1).1
      unfold W at hw
      rw [decide_eq_true (by omega)] at hb
      cases hb
    · have h0 : 0 ≤ i := by simpa using hb
      refine q_asg ev_c fun H2 e2 => q_asg (ev_var rfl) fun H3 e3 => ?_
      refine q_forR1 (n := 11) (ea_cons ev_c ea_nil) ⟨by decide, by decide⟩ (fun j σ' H' => ∃ (z : Str) (y3 y4 : Option V), σ' = [some (.int i), some (.str z), some (.int (i / 40 ^ j)), y3, y4] ∧ Ex H H' ∧ z.cps.toList.length ≤ j ∧ (∀ c ∈ z.cps.toList, c ∈ AL) ∧ ∀ y : Str, Nm y → W y.cps.toList = i → z.cps.toList = y.cps.toList.drop (11 - j))
        (fun H4 e4 => ⟨Str.ofString "", none, none, by rw [Int.pow_zero, Int.ediv_one]; rfl, ((e1.trans e2).trans e3).trans e4, by decide +kernel, by decide +kernel, fun y hy _ => by
          rw [List.drop_eq_nil_of_le hy.2.1]
          decide +kernel⟩) ?_ ?_
      · rintro j σ' H' hj ⟨z, y3, y4, rfl, e0, hzl, hzA, hzy⟩
        refine ⟨_, rfl, _, _, rfl, ⟨by decide, by decide⟩, fun p hp => ⟨p, [_, _], rfl, .inl (.inl upd_same), rfl, _, [_], rfl, _, [], rfl, rfl, ?_⟩⟩
        have e5 := Ex.new (o := .tup [.int (i / 40 ^ j / 40), .int (i / 40 ^ j % 40)]) hp
        have hq : i / 40 ^ j / 40 = i / 40 ^ (j + 1) := by
          rw [Int.ediv_ediv_of_nonneg (Int.le_of_lt (p40 _)), Int.pow_succ]
        have hd : ∀ y : Str, Nm y → W y.cps.toList = i → i / 40 ^ j % 40 = (dig y.cps.toList (10 - j) : Int) := fun y hy hw => by
          have k := word_dig hy.2.1 hy.2.2.1 (10 - j) (by omega)
          rw [show 10 - (10 - j) = j by omega] at k
          rw [← k]
          unfold W at hw
          rw [hw]
        rw [hq] at e5 ⊢
        have m0 := Int.emod_nonneg (i / 40 ^ j) (show (40 : Int) ≠ 0 by decide)
        have m1 := Int.emod_lt_of_pos (i / 40 ^ j) (show (0 : Int) < 40 by decide)
        generalize i / 40 ^ j % 40 = d at *
        refine s_when (et_test (ev_op (ev_var rfl) ev_c rv_I0)) (fun hb H6 e6 => ?_) (fun hb H6 e6 => ?_)
        · have hpos : 0 < d := of_decide_eq_true hb
          obtain ⟨n, hn⟩ := Int.eq_ofNat_of_zero_le (show 0 ≤ d - 1 by omega)
          have hnl : n < AL.length := by rw [al_n]; omega
          have hc : AL[n]? = some AL[n] := List.getElem?_eq_getElem hnl
          refine s_asg (v := .str (⟨#[AL[n]]⟩ ++ z)) (ev_op (ev_op ev_c (ev_op (ev_var rfl) ev_c rv_I0) (rv_ixS (by rw [al_len]; decide) (by rw [hn]; exact atI_nat hc))) (ev_var rfl) (rv_addS (by rw [str_len z]; exact Nat.le_trans (show _ ≤ 100 by show 1 + z.cps.toList.length ≤ 100; omega) (by decide)))) fun H7 e7 => ⟨_, _, _, rfl, ((e0.trans e5).trans e6).trans e7, ?_, fun c hc2 => ?_, fun y hy hw => ?_⟩
          · rw [app_list, List.length_append]
            show 1 + z.cps.toList.length ≤ j + 1
            omega
          · rw [app_list] at hc2
            rcases List.mem_append.mp hc2 with h | h
            · rw [List.mem_singleton.mp h]
              exact List.getElem_mem hnl
            · exact hzA c h
          · rw [app_list, hzy y hy hw]
            have dd := hd y hy hw
            obtain ⟨c, k1, k2⟩ := dig_pos (l := y.cps.toList) (k := 10 - j) (by omega)
            have hcA := hy.2.2.1 c (List.mem_of_getElem? k1)
            have en : n = ix c := by omega
            have ec : AL[n] = c := by
              have g := al_get c hcA
              rw [← en, hc] at g
              exact Option.some.inj g
            obtain ⟨hlt, hget⟩ := List.getElem?_eq_some_iff.mp k1
            rw [show 11 - (j + 1) = 10 - j by omega, List.drop_eq_getElem_cons hlt, hget, show 10 - j + 1 = 11 - j by omega, ec]
            rfl
        · have hz0 : d = 0 := by
            have := of_decide_eq_false hb
            omega
          refine ⟨z, _, _, rfl, (e0.trans e5).trans e6, by omega, hzA, fun y hy hw => ?_⟩
          rw [hzy y hy hw]
          have dd := hd y hy hw
          have hl := dig_zero (l := y.cps.toList) (k := 10 - j) (by omega)
          rw [List.drop_eq_nil_of_le (show y.cps.toList.length ≤ 11 - j by omega), List.drop_eq_nil_of_le (show y.cps.toList.length ≤ 11 - (j + 1) by omega)]
      · rintro σ' H' ⟨z, y3, y4, rfl, e0, hzl, hzA, hzy⟩
        have hzl' : z.cps.toList.length ≤ 11 := hzl
        have hzy' : ∀ y : Str, Nm y → W y.cps.toList = i → z = y := fun y hy hw => str_ext (hzy y hy hw)
        refine ⟨.str z, rfl, z, rfl, by omega, hT.mono e0, fun hN H2 e2 => ?_, fun hN H2 e2 => qE (fun ⟨y, hy, hw⟩ => hN (by rw [hzy' y hy hw]; exact hy)) H2 (e0.trans e2)⟩
        refine ⟨.int i, rfl, rfl, _, rfl, ite2 (fun hb => ?_) (fun hb => ?_)⟩
        · refine qE (fun ⟨y, hy, hw⟩ => ?_) H2 (e0.trans e2)
          rw [hzy' y hy hw, hw] at hb
          simp at hb
        · have hw : W z.cps.toList = i := by
            by_cases e : V.int (W z.cps.toList) = V.int i
            · exact V.int.inj e
            · rw [decide_eq_false e] at hb
              exact absurd rfl hb
          exact s_ret (ev_var rfl) fun H3 e3 => q z hN hw H3 ((e0.trans e2).trans e3)
end

/-! ### a name by its digits -/
theorem al_ix : ∀ n : Fin 39, AL[n.val]?.map ix = some n.val := by decide +kernel
theorem ix_al {n c : Nat} (h : AL[n]? = some c) : ix c = n := by
  have hn : n < 39 := by
    have := (List.getElem?_eq_some_iff.mp h).1
    rwa [al_n] at this
  have := al_ix ⟨n, hn⟩
  rw [show AL[(⟨n, hn⟩ : Fin 39).val]? = some c from h] at this
  exact Option.some.inj this
def dgt (i : Int) (k : Nat) : Int := i / 40 ^ (10 - k) % 40
def isNm (i : Int) : Bool := (!decide (i / 40 ^ 11 > 0) && !decide (dgt i 0 = 0)) && ((List.range 10).all (fun k => !(decide (dgt i k = 0) && !decide (dgt i (k + 1) = 0))) && (List.range 11).any (fun k => !decide (dgt i k = 0) && !decide (dgt i k = 37)))
theorem isNm_iff (i : Int) : isNm i = true ↔ i / 40 ^ 11 ≤ 0 ∧ dgt i 0 ≠ 0 ∧ (∀ k, k < 10 → dgt i k = 0 → dgt i (k + 1) = 0) ∧ ∃ k, k < 11 ∧ dgt i k ≠ 0 ∧ dgt i k ≠ 37 := by
  unfold isNm
  simp only [Bool.and_eq_true, Bool.not_eq_true', decide_eq_false_iff_not, List.all_eq_true, List.any_eq_true, List.mem_range, Bool.and_eq_false_iff, Bool.not_eq_false', decide_eq_true_eq]
  constructor
  · rintro ⟨⟨a, b⟩, c, k, hk, d, e⟩
    exact ⟨by omega, b, fun k hk h0 => (c k hk).elim (fun x => absurd h0 x) id, k, hk, d, e⟩
  · rintro ⟨a, b, c, k, hk, d, e⟩
    refine ⟨⟨by omega, b⟩, fun k hk => ?_, k, hk, d, e⟩
    by_cases h : dgt i k = 0
    · exact .inr (c k hk h)
    · exact .inl h
theorem dgt_b (i : Int) (k : Nat) : 0 ≤ dgt i k ∧ dgt i k < 40 := ⟨Int.emod_nonneg _ (by decide), Int.emod_lt_of_pos _ (by decide)⟩
def chars (D : Nat → Int) : Nat → Nat → List Nat
  | _, 0 => []
  | k, n + 1 => if D k = 0 then [] else AL.getD (D k - 1).toNat 0 :: chars D (k + 1) n
theorem zeros {D : Nat → Int} (hC : ∀ k, k < 10 → D k = 0 → D (k + 1) = 0) {k : Nat} (h0 : D k = 0) : ∀ j, k + j < 11 → D (k + j) = 0
  | 0, _ => h0
  | j + 1, h => hC (k + j) (by omega) (zeros hC h0 j (by omega))
theorem chars_ok {D : Nat → Int} (hb : ∀ k, 0 ≤ D k ∧ D k < 40) (hC : ∀ k, k < 10 → D k = 0 → D (k + 1) = 0) : ∀ (n k : Nat), k + n = 11 → (chars D k n).length ≤ n ∧ (∀ c ∈ chars D k n, c ∈ AL) ∧ ∀ j, j < n → (dig (chars D k n) j : Int) = D (k + j)
  | 0, k, _ => ⟨Nat.le_refl _, fun c hc => (by cases hc), fun j hj => absurd hj (by omega)⟩
  | n + 1, k, h => by
    obtain ⟨i1, i2, i3⟩ := chars_ok hb hC n (k + 1) (by omega)
    unfold chars
    by_cases h0 : D k = 0
    · rw [if_pos h0]
      refine ⟨Nat.zero_le _, fun c hc => (by cases hc), fun j hj => ?_⟩
      rw [zeros hC h0 j (by omega)]
      rfl
    · rw [if_neg h0]
      have hd := hb k
      have hn : (D k - 1).toNat < AL.length := by rw [al_n]; omega
      have hg : AL[(D k - 1).toNat]? = some (AL.getD (D k - 1).toNat 0) := by rw [List.getD_eq_getElem?_getD, List.getElem?_eq_getElem hn]; rfl
      refine ⟨by rw [List.length_cons]; omega, fun c hc => ?_, fun j hj => ?_⟩
      · rcases List.mem_cons.mp hc with rfl | hc
        · exact List.mem_of_getElem? hg
        · exact i2 c hc
      · cases j with
        | zero =>
          show ((ix (AL.getD (D k - 1).toNat 0) + 1 : Nat) : Int) = D k
          rw [ix_al hg]
          omega
        | succ j =>
          have := i3 j (by omega)
          rw [show k + (j + 1) = k + 1 + j by omega, ← this]
          rfl
theorem ix46 : ix 46 = 36 := by decide +kernel
theorem in46 : (46 : Nat) ∈ AL := by decide +kernel
theorem nm_dig {i : Int} (h0 : 0 ≤ i) : isNm i = true ↔ ∃ z : Str, Nm z ∧ W z.cps.toList = i := by
  rw [isNm_iff]
  constructor
  · rintro ⟨a, b, c, k, hk, d1, d2⟩
    obtain ⟨l1, l2, l3⟩ := chars_ok (fun k => dgt_b i k) c 11 0 rfl
    generalize chars (dgt i) 0 11 = l at l1 l2 l3
    have e : i = vl 11 l := word_of l1 h0 (by
      have := Int.emod_add_mul_ediv i (40 ^ 11)
      have := Int.emod_lt_of_pos i (show (0 : Int) < 40 ^ 11 by decide)
      have hq : i / 40 ^ 11 = 0 := by
        have := Int.ediv_nonneg h0 (show (0 : Int) ≤ 40 ^ 11 by decide)
        omega
      rw [hq] at *
      omega) (fun k hk => by rw [l3 k hk, Nat.zero_add]; rfl)
    refine ⟨⟨l.toArray⟩, ⟨?_, l1, l2, ?_⟩, ?_⟩
    · show 1 ≤ l.length
      have h := l3 0 (by decide)
      cases l with
      | nil => exact absurd h.symm b
      | cons x r => simp
    · have h := l3 k hk
      rw [Nat.zero_add] at h
      have hp : 0 < dig l k := by
        have := dgt_b i k
        omega
      obtain ⟨c, hc, e2⟩ := dig_pos hp
      refine ⟨c, List.mem_of_getElem? hc, fun e3 => ?_⟩
      rw [e2, e3, ix46] at h
      exact d2 h.symm
    · exact e.symm
  · rintro ⟨z, hN, rfl⟩
    obtain ⟨n1, n2, n3, c, hc, hne⟩ := hN
    have hd : ∀ k, k < 11 → dgt (W z.cps.toList) k = (dig z.cps.toList k : Int) := fun k hk => word_dig n2 n3 k hk
    have hb := vl_bounds z.cps.toList 11 n2 n3
    refine ⟨?_, ?_, fun k hk h => ?_, ?_⟩
    · show vl 11 z.cps.toList / 40 ^ 11 ≤ 0
      rw [Int.ediv_eq_zero_of_lt hb.1 hb.2]
      decide
    · rw [hd 0 (by decide)]
      intro h
      have := dig_zero (l := z.cps.toList) (k := 0) (by omega)
      omega
    · rw [hd k (by omega)] at h
      rw [hd (k + 1) (by omega)]
      have := dig_zero (l := z.cps.toList) (k := k) (by omega)
      unfold dig
      rw [List.getElem?_eq_none (by omega)]
      rfl
    · obtain ⟨k, hk⟩ := List.mem_iff_getElem?.mp hc
      have hl := (List.getElem?_eq_some_iff.mp hk).1
      have e : dig z.cps.toList k = ix c + 1 := by
        unfold dig
        rw [hk]
      refine ⟨k, by omega, ?_, ?_⟩ <;> rw [hd k (by omega), e]
      · omega
      · intro h
        have h36 : ix c = ix 46 := by rw [ix46]; omega
        exact hne (ix_inj c (n3 c hc) 46 in46 h36)

/-! ### values of a known kind -/
inductive Kd (H : Hp) : V → String → Prop
  | non : Kd H .non "NoneType"
  | bl (b : Bool) : Kd H (.bl b) "bool"
  | int (i : Int) : Kd H (.int i) "int"
  | str (z : Str) : Kd H (.str z) "str"
  | lst {a : Addr} {xs : List V} (h : H a = some (.lst xs)) : Kd H (.ref a) "list"
  | tup {a : Addr} {xs : List V} (h : H a = some (.tup xs)) : Kd H (.ref a) "tuple"
theorem Kd.mono {H H' : Hp} {v : V} {n : String} (e : Ex H H') : Kd H v n → Kd H' v n
  | .non => .non
  | .bl b => .bl b
  | .int i => .int i
  | .str z => .str z
  | .lst h => .lst (e _ _ h)
  | .tup h => .tup (e _ _ h)
theorem Kd.ty {K : PySem.W.Frag} {H : Hp} {v : V} {n : String} : Kd H v n → TyOf K H v (.type n)
  | .non => .non
  | .bl b => .bl b
  | .int i => .int i
  | .str z => .str z
  | .lst h => .lst h
  | .tup h => .tup h
theorem Kd.no {H : Hp} {v : V} {n : String} (k : Kd H v n) : ∀ a C dx fs, H a = some (.ins C dx fs) → v ≠ .ref a := fun a C dx fs h e => by
  cases k with
  | lst h2 =>
    cases e
    rw [h] at h2
    cases h2
  | tup h2 =>
    cases e
    rw [h] at h2
    cases h2
  | _ => cases e
def wd : V → Bool
  | .int i => decide (0 ≤ i)
  | _ => false
/-- isinstance(v, int), isinstance(v, bool) -/
def kInt (n : String) : Bool := n == "int" || n == "bool"
theorem kd_int {K : PySem.W.Frag} {H : Hp} {v : V} {n : String} (k : Kd H v n) : PySem.W.kitOne K (.type n) (.type "int") = some (kInt n) := by
  cases k <;> exact kit_ty rfl
theorem kd_bool {K : PySem.W.Frag} {H : Hp} {v : V} {n : String} (k : Kd H v n) : PySem.W.kitOne K (.type n) (.type "bool") = some (n == "bool") := by
  cases k <;> exact kit_ty rfl
theorem kd_list {K : PySem.W.Frag} {H : Hp} {v : V} {n : String} (k : Kd H v n) : PySem.W.kitOne K (.type n) (.type "list") = some (n == "list") := by
  cases k <;> exact kit_ty rfl
theorem kd_tuple {K : PySem.W.Frag} {H : Hp} {v : V} {n : String} (k : Kd H v n) : PySem.W.kitOne K (.type n) (.type "tuple") = some (n == "tuple") := by
  cases k <;> exact kit_ty rfl
theorem kd_str {K : PySem.W.Frag} {H : Hp} {v : V} {n : String} (k : Kd H v n) : PySem.W.kitOne K (.type n) (.type "str") = some (n == "str") := by
  cases k <;> exact kit_ty rfl
section
variable {K : PySem.W.Frag} {σ : L2.St} {H : Hp} {ta tb : TE} {v : V}
theorem ev_isk {n m : String} {b : Bool} (h : Ev ta σ H v) (hn : Ev tb σ H (.ty m)) (k : Kd H v n) (hk : PySem.W.kitOne K (.type n) (.type m) = some b) : Ev (tCB (rIsi K) (tCons ta (tCons tb tNil))) σ H (.bl b) := ev_isi h hn (fun H1 e => .base (k.mono e).ty) hk
end

end K68

set_option Elab.async false
set_option linter.all false
set_option maxRecDepth 100000
set_option maxHeartbeats 4000000
namespace K68
open PySem PySem.Spec PyProof.Rows L2 Evl LK LT LG LS LQ LX LO LN LP LH LV LZ LW StX
/-! ### what is an intent -/
def fldB (what : Str) (v : Int) : Bool := if what = "name" then isNm v else if what = "inode" then decide (v ≥ 1) else if what = "kind" then inV (.int v) [.int 1, .int 2] else (decide (what = "word") || decide (v ≤ 255))
def bndB (k : Int) (r : List Int) : Bool :=
  if k = 6 then decide ((r.length : Int) ≥ 4) && decide (r.getD 2 0 + ((r.drop 3).length : Int) ≤ 2048)
  else if k = 7 then decide (r.getD 2 0 ≤ 2048)
  else if k = 8 then decide (r.getD 5 0 ≥ 1) && (decide (r.getD 2 0 + r.getD 5 0 ≤ 64) && decide (r.getD 4 0 + r.getD 5 0 ≤ 64))
  else true
def nnB (ws : List Int) : Bool := allF ws.length fun i => decide (0 ≤ ws.getD i 0)
def sizB (k : Int) (fs : List Str) (r : List Int) : Bool := decide (fs.length ≤ r.length) && (decide (r.length ≤ fs.length) || decide (k = 6))
def chkK (k : Int) (r : List Int) : Bool := match getW wordsOf k with
  | none => false
  | some fs => sizB k fs r && ((allF fs.length fun i => fldB (fs.getD i "") (r.getD i 0)) && bndB k r)
def chkB : List Int → Bool
  | [] => false
  | k :: r => nnB (k :: r) && chkK k r
theorem chk_cons (k : Int) (r : List Int) : chkB (k :: r) = (nnB (k :: r) && chkK k r) := rfl
theorem chkK_none {k : Int} {r : List Int} (h : getW wordsOf k = none) : chkK k r = false := by
  unfold chkK
  rw [h]
theorem chkK_some {k : Int} {r : List Int} {fs : List Str} (h : getW wordsOf k = some fs) : chkK k r = (sizB k fs r && ((allF fs.length fun i => fldB (fs.getD i "") (r.getD i 0)) && bndB k r)) := by
  unfold chkK
  rw [h]
theorem allF_iff {n : Nat} {f : Nat → Bool} : allF n f = true ↔ ∀ i, i < n → f i = true := by
  unfold allF
  simp only [List.all_eq_true, List.mem_range]
theorem at_get {ws : List Int} {j : Nat} (h : j < ws.length) : atI (ws.map V.int) (j : Int) = some (.int (ws.getD j 0)) := atI_nat (by rw [List.getElem?_map, List.getD_eq_getElem?_getD, List.getElem?_eq_getElem h]; rfl)
theorem get_at {ws : List Int} {j : Nat} {x : V} (h : (ws.map V.int)[j]? = some x) : x = .int (ws.getD j 0) := by
  rw [List.getElem?_map] at h
  obtain ⟨y, hy, rfl⟩ := Option.map_eq_some_iff.mp h
  rw [List.getD_eq_getElem?_getD, hy]
  rfl
theorem get_str {zs : List Str} {j : Nat} {x : V} (h : (zs.map V.str)[j]? = some x) : x = .str (zs.getD j "") := by
  rw [List.getElem?_map] at h
  obtain ⟨y, hy, rfl⟩ := Option.map_eq_some_iff.mp h
  rw [List.getD_eq_getElem?_getD, hy]
  rfl
def spOw : Sp := fun vs H Q _ => ∃ i : Int, vs = [.int i] ∧ RetV (.bl (decide (0 ≤ i) && decide (i ≤ 255))) H Q
def spInw (Pt : Addr) : Sp := fun vs H Q _ => ∃ i : Int, vs = [.int i] ∧ 0 ≤ i ∧ Tab H Pt ∧ RetV (.bl (isNm i)) H Q
def spFld (Pt : Addr) : Sp := fun vs H Q _ => ∃ (what : Str) (i : Int), vs = [.str what, .int i] ∧ 0 ≤ i ∧ Tab H Pt ∧ RetV (.bl (fldB what i)) H Q
def spBnd (K : PySem.W.Frag) : Sp := fun vs H Q _ => ∃ (k : Int) (a : Addr) (r : List Int), vs = [.int k, .ref a] ∧ SqL K H a (r.map V.int) ∧ (k = 6 → 3 ≤ r.length) ∧ (k = 7 → 3 ≤ r.length) ∧ (k = 8 → r.length = 6) ∧ RetV (.bl (bndB k r)) H Q
def spChk (K : PySem.W.Frag) (Pi Pc : Addr) : Sp := fun vs H Q _ => ∃ (a : Addr) (ws : List Int), vs = [.ref a] ∧ SqT K H a (ws.map V.int) ∧ ws.length ≤ 5000 ∧ Tab H Pi ∧ Tab H Pc ∧ RetV (.bl (chkB ws)) H Q
section
variable {P : Program} {w : World} {K : PySem.W.Frag} {mg : Str → Option Value} {base : Heap} {tA : Tok} {aW : Addr} {Pi Pc CB : Addr}
theorem ok_ow {f fJ : Addr} {fd fdJ : FuncData} (F : Fun K "is_owner" "is_owner" sOw f fd) (FJ : Fun K "is_word" "is_word" sIw fJ fdJ) (GJ : FnOk P w K mg base CX0 1 fJ fdJ ["value"] spIw) (bJ : Binds K fdJ ["value"] []) (gJ : mg "is_word" = some (.ref fJ)) (T : Txt mg K tA aW) : FnOk P w K mg base CX0 2 f fd ["owner"] spOw := by
  obtain ⟨_, gGREATEST_OWNER⟩ := T.gGREATEST_OWNER
  refine F.ok scOw (fun vs H Q E h => ?_) (fun cdv A outer s H vs Q E hr h => ?_)
  · obtain ⟨i, rfl, _⟩ := h
    rfl
  · obtain ⟨i, rfl, q⟩ := h
    refine ⟨_, (pss_one (ps_ret (pe_and (pe_call GJ (hr.mono (by decide)) (by rfl) gJ FJ.kp bJ .nil pass0 (pa_cons (pv 0) pa_nil)) (pe_one (pe_cmpR op_le (pv 0) (pe_glob (v := .int 255) rfl gGREATEST_OWNER ⟨_, rfl⟩) (nomark _)))))), ?_⟩
    exact s_ret (ev_andV (ev_call (vs := [.int i]) (z := .bl (decide (0 ≤ i))) (ea_cons (ev_var rfl) ea_nil) (fun H1 e1 Q' q' E' => ⟨i, rfl, q'⟩)) (fun _ => ev_op (ev_var rfl) ev_c rv_I0)) q
theorem ok_inw {f fY : Addr} {fd fdY : FuncData} (F : Fun K "is_name_word" "is_name_word" sInw f fd) (FY : Fun K "word_name" "word_name" sWn fY fdY) (GY : FnOk P w K mg base (L2.CX P w) 3 fY fdY ["word"] (spWn Pi CB)) (bY : Binds K fdY ["word"] []) (gY : mg "word_name" = some (.ref fY)) (T : Txt mg K tA aW)
    (XB : Xc K mg "BadName" CB) (sBB : PySem.W.subIn K (.ref CB) (.ref CB) = some true) : FnOk P w K mg base CX0 4 f fd ["word"] (spInw Pi) := by
  refine F.ok scInw (fun vs H Q E h => ?_) (fun cdv A outer s H vs Q E hr h => ?_)
  · obtain ⟨i, rfl, _⟩ := h
    rfl
  · obtain ⟨i, rfl, h0, hT, q⟩ := h
    refine ⟨_, (pss_one (ps_try_only rfl rfl ⟨rfl, by decide, .inl XB.g⟩ takes0 (fun W pn xe tk _ => (pss_cons (ps_expr (pe_callS GY hr (by rfl) gY FY.kp bY (fun σ => passAt tk σ) (pa_cons (pv 0) pa_nil)))
      (pss_one (ps_ret pe_bl)))) (fun a oe cls d pn hz hf => (pss_one (ps_ret pe_bl))))), ?_⟩
    refine ⟨.int i, rfl, i, rfl, hT, fun z hN hw H2 e2 => ?_, fun hN H2 e2 => ⟨true, XB.exm sBB, fun _ a ha => ?_, fun q => nomatch q⟩⟩
    · rw [(nm_dig h0).mpr ⟨z, hN, hw⟩] at q
      dsimp only
      exact s_ret ev_c fun H3 e3 => q H3 (e2.trans e3)
    · rw [show isNm i = false from by
        cases hb : isNm i with
        | false => rfl
        | true => exact absurd ((nm_dig h0).mp hb) hN] at q
      exact s_ret ev_c fun H3 e3 => q H3 (e2.trans e3)
theorem ok_fld {f fN fO : Addr} {fd fdN fdO : FuncData} (F : Fun K "is_field" "is_field" sFld f fd) (FNw : Fun K "is_name_word" "is_name_word" sInw fN fdN) (GNw : FnOk P w K mg base CX0 4 fN fdN ["word"] (spInw Pi)) (bNw : Binds K fdN ["word"] []) (gNw : mg "is_name_word" = some (.ref fN))
    (FOw : Fun K "is_owner" "is_owner" sOw fO fdO) (GOw : FnOk P w K mg base CX0 2 fO fdO ["owner"] spOw) (bOw : Binds K fdO ["owner"] []) (gOw : mg "is_owner" = some (.ref fO)) (T : Txt mg K tA aW) : FnOk P w K mg base CX0 5 f fd ["what", "word"] (spFld Pi) := by
  obtain ⟨_, gFILE⟩ := T.gFILE
  obtain ⟨_, gDIRECTORY⟩ := T.gDIRECTORY
  refine F.ok scFld (fun vs H Q E h => ?_) (fun cdv A outer s H vs Q E hr h => ?_)
  · obtain ⟨what, i, rfl, _⟩ := h
    rfl
  · obtain ⟨what, i, rfl, h0, hT, q⟩ := h
    refine ⟨_, (pss_cons (ps_if (pt_cmpR op_eq (pv 0) pe_str (nomark _)) (pss_one (ps_ret (pe_call GNw (hr.mono (by decide)) (by rfl) gNw FNw.kp bNw .nil pass0 (pa_cons (pv 1) pa_nil)))) pss_nil)
      (pss_cons (ps_if (pt_cmpR op_eq (pv 0) pe_str (nomark _)) (pss_one (ps_ret (pe_cmpR op_ge (pv 1) pe_int (nomark _)))) pss_nil)
      (pss_cons (ps_if (pt_cmpR op_eq (pv 0) pe_str (nomark _)) (pss_one (ps_ret (pe_cmpR op_in_seq (pv 1) (pe_tup (pa_cons (pe_glob (v := .int 1) rfl gFILE ⟨_, rfl⟩) (pa_cons (pe_glob (v := .int 2) rfl gDIRECTORY ⟨_, rfl⟩) pa_nil))) rfl))) pss_nil)
      (pss_one (ps_ret (pe_or (pe_cmpR op_eq (pv 0) pe_str (nomark _)) (pe_one (pe_call GOw (hr.mono (by decide)) (by rfl) gOw FOw.kp bOw .nil pass0 (pa_cons (pv 1) pa_nil))))))))), ?_⟩
    unfold fldB at q
    refine q_when (b := decide (what = "name")) (et_is (et_test (ev_op (ev_var rfl) ev_c (rv_eq rfl))) (by simp)) (fun hb H1 e1 => ?_) (fun hb H1 e1 => ?_)
    · rw [if_pos (of_decide_eq_true hb)] at q
      exact s_ret (ev_call (vs := [.int i]) (z := .bl (isNm i)) (ea_cons (ev_var rfl) ea_nil) (fun H2 e2 Q' q' E' => ⟨i, rfl, h0, hT.mono (e1.trans e2), q'⟩)) fun H2 e2 => q H2 (e1.trans e2)
    rw [if_neg (of_decide_eq_false hb)] at q
    refine q_when (b := decide (what = "inode")) (et_is (et_test (ev_op (ev_var rfl) ev_c (rv_eq rfl))) (by simp)) (fun hb H2 e2 => ?_) (fun hb H2 e2 => ?_)
    · rw [if_pos (of_decide_eq_true hb)] at q
      exact s_ret (ev_op (ev_var rfl) ev_c rv_I0) fun H3 e3 => q H3 ((e1.trans e2).trans e3)
    rw [if_neg (of_decide_eq_false hb)] at q
    refine q_when (b := decide (what = "kind")) (et_is (et_test (ev_op (ev_var rfl) ev_c (rv_eq rfl))) (by simp)) (fun hb H3 e3 => ?_) (fun hb H3 e3 => ?_)
    · rw [if_pos (of_decide_eq_true hb)] at q
      exact s_ret (ev_inU (ev_var rfl) (eu_tup (ea_cons ev_c (ea_cons ev_c ea_nil)) (by simp)) rfl rfl) fun H4 e4 => q H4 (((e1.trans e2).trans e3).trans e4)
    rw [if_neg (of_decide_eq_false hb)] at q
    refine s_ret (ev_is (ev_orV (a := decide (what = "word")) (ev_is (ev_op (ev_var rfl) ev_c (rv_eq rfl)) (by simp)) (fun _ => ev_call (vs := [.int i]) (ea_cons (ev_var rfl) ea_nil) (fun H2 e2 Q' q' E' => ⟨i, rfl, q'⟩))) ?_) fun H4 e4 => q H4 (((e1.trans e2).trans e3).trans e4)
    rw [decide_eq_true h0, Bool.true_and]
theorem ok_bnd {f : Addr} {fd : FuncData} (F : Fun K "is_within_bounds" "is_within_bounds" sBnd f fd) (T : Txt mg K tA aW) : FnOk P w K mg base CX0 1 f fd ["kind", "words"] (spBnd K) := by
  obtain ⟨_, gWRITE⟩ := T.gWRITE
  obtain ⟨_, gRESIZE⟩ := T.gRESIZE
  obtain ⟨_, gSHARE⟩ := T.gSHARE
  obtain ⟨_, gMAX_CELLS⟩ := T.gMAX_CELLS
  obtain ⟨_, gMAX_UNITS⟩ := T.gMAX_UNITS
  refine F.ok scBnd (fun vs H Q E h => ?_) (fun cdv A outer s H vs Q E hr h => ?_)
  · obtain ⟨k, a, r, rfl, _⟩ := h
    rfl
  · obtain ⟨k, a, r, rfl, hS, h6, h7, h8, q⟩ := h
    refine ⟨_, (pss_cons (ps_if (pt_cmpR op_eq (pv 0) (pe_glob (v := .int 6) rfl gWRITE ⟨_, rfl⟩) (nomark _)) (pss_one (ps_ret (pe_and (pe_cmpR op_ge (pe_callB call_len_seq (by rfl) T.len (by decide +kernel) (pa_cons (pv 1) pa_nil)) pe_int (nomark _)) (pe_one (pe_cmpR op_le (pe_op op_add (pe_ix ix_list (pv 1) pe_int (fun _ _ => rfl)) (pe_callB call_len_seq (by rfl) T.len (by decide +kernel) (pa_cons (pe_slice sl_list (pv 1) (po_some pe_int) po_none) pa_nil))) (pe_glob (v := .int 2048) rfl gMAX_CELLS ⟨_, rfl⟩) (nomark _)))))) pss_nil)
      (pss_cons (ps_if (pt_cmpR op_eq (pv 0) (pe_glob (v := .int 7) rfl gRESIZE ⟨_, rfl⟩) (nomark _)) (pss_one (ps_ret (pe_cmpR op_le (pe_ix ix_list (pv 1) pe_int (fun _ _ => rfl)) (pe_glob (v := .int 2048) rfl gMAX_CELLS ⟨_, rfl⟩) (nomark _)))) pss_nil)
      (pss_cons (ps_if (pt_cmpR op_eq (pv 0) (pe_glob (v := .int 8) rfl gSHARE ⟨_, rfl⟩) (nomark _)) (pss_cons (ps_asg (pv 1) (pg_lst (by rfl) (pgs_cons (pg_name (i := 2) scBnd.nd rfl (Or.inl rfl)) (pgs_cons (pg_name (i := 2) scBnd.nd rfl (Or.inl rfl)) (pgs_cons (pg_name (i := 3) scBnd.nd rfl (Or.inl rfl)) (pgs_cons (pg_name (i := 2) scBnd.nd rfl (Or.inl rfl)) (pgs_cons (pg_name (i := 4) scBnd.nd rfl (Or.inl rfl)) (pgs_cons (pg_name (i := 5) scBnd.nd rfl (Or.inl rfl)) pgs_nil))))))))
      (pss_one (ps_ret (pe_and (pe_cmpR op_ge (pv 5) pe_int (nomark _)) (pe_and (pe_cmpR op_le (pe_op op_add (pv 3) (pv 5)) (pe_glob (v := .int 64) rfl gMAX_UNITS ⟨_, rfl⟩) (nomark _)) (pe_one (pe_cmpR op_le (pe_op op_add (pv 4) (pv 5)) (pe_glob (v := .int 64) rfl gMAX_UNITS ⟨_, rfl⟩) (nomark _)))))))) pss_nil)
      (pss_one (ps_ret pe_bl))))), ?_⟩
    unfold bndB at q
    refine q_when (b := decide (k = 6)) (et_is (et_test (ev_op (ev_var rfl) ev_c (rv_eq rfl))) (by simp)) (fun hb H1 e1 => ?_) (fun hb H1 e1 => ?_)
    · have hk := of_decide_eq_true hb
      rw [if_pos hk] at q
      have hl := h6 hk
      have ln : ∀ {B : Hp} {σ : L2.St}, Ex H B → σ[1]? = some (some (.ref a)) → Ev (tCB (rLenS K) (tCons (tVar 1) tNil)) σ B (.int (r.length : Int)) := fun x h => ev_is (ev_len (ev_var h) (ex_l x hS)) (by rw [List.length_map])
      refine s_ret (ev_andV (ev_op (ln e1 rfl) ev_c rv_I0) (fun _ => ev_op (ev_op (ev_op (ev_var rfl) ev_c (rv_ixL (ex_l e1 hS) (at_get (j := 2) (by omega)))) (ev_is (ev_lenN (el_sl (ev_var rfl) (eo_some ev_c) eo_none (ex_l e1 hS))) (w := .int ((r.drop 3).length : Int)) ?_) rv_I0) ev_c rv_I0)) fun H2 e2 => q H2 (e1.trans e2)
      rw [show cutV (r.map V.int) (some 3) none = (r.map V.int).drop 3 from cut_hi _ 3, ← List.map_drop, List.length_map]
    have hk := of_decide_eq_false hb
    rw [if_neg hk] at q
    refine q_when (b := decide (k = 7)) (et_is (et_test (ev_op (ev_var rfl) ev_c (rv_eq rfl))) (by simp)) (fun hb H2 e2 => ?_) (fun hb H2 e2 => ?_)
    · have hk := of_decide_eq_true hb
      rw [if_pos hk] at q
      have hl := h7 hk
      exact s_ret (ev_op (ev_op (ev_var rfl) ev_c (rv_ixL (ex_l (e1.trans e2) hS) (at_get (j := 2) (by omega)))) ev_c rv_I0) fun H3 e3 => q H3 ((e1.trans e2).trans e3)
    have hk := of_decide_eq_false hb
    rw [if_neg hk] at q
    refine q_when (b := decide (k = 8)) (et_is (et_test (ev_op (ev_var rfl) ev_c (rv_eq rfl))) (by simp)) (fun hb H3 e3 => ?_) (fun hb H3 e3 => ?_)
    · have hk := of_decide_eq_true hb
      rw [if_pos hk] at q
      have hl := h8 hk
      obtain ⟨x0, x1, x2, x3, x4, x5, rfl⟩ : ∃ x0 x1 x2 x3 x4 x5 : Int, r = [x0, x1, x2, x3, x4, x5] := by
        match r, hl with
        | [a0, a1, a2, a3, a4, a5], _ => exact ⟨_, _, _, _, _, _, rfl⟩
      refine ⟨.ref a, rfl, a, _, rfl, ex_l ((e1.trans e2).trans e3) hS, rfl, _, _, rfl, _, _, rfl, _, _, rfl, _, _, rfl, _, _, rfl, _, _, rfl, rfl, ?_⟩
      exact s_ret (ev_andV (ev_op (ev_var rfl) ev_c rv_I0) (fun _ => ev_andV (ev_op (ev_op (ev_var rfl) (ev_var rfl) rv_I0) ev_c rv_I0) (fun _ => ev_op (ev_op (ev_var rfl) (ev_var rfl) rv_I0) ev_c rv_I0))) fun H4 e4 => q H4 (((e1.trans e2).trans e3).trans e4)
    have hk := of_decide_eq_false hb
    rw [if_neg hk] at q
    exact s_ret ev_c fun H4 e4 => q H4 (((e1.trans e2).trans e3).trans e4)
theorem siz_of {k : Int} {fs : List Str} (h : getW wordsOf k = some fs) : (k = 6 → fs.length = 3) ∧ (k = 7 → fs.length = 3) ∧ (k = 8 → fs.length = 6) := by
  refine ⟨?_, ?_, ?_⟩ <;> rintro rfl
  · have := h.symm.trans (show getW wordsOf 6 = (some ["name", "inode", "word"] : Option (List Str)) from rfl)
    rw [Option.some.inj this]
    rfl
  · have := h.symm.trans (show getW wordsOf 7 = (some ["name", "inode", "word"] : Option (List Str)) from rfl)
    rw [Option.some.inj this]
    rfl
  · have := h.symm.trans (show getW wordsOf 8 = (some ["name", "inode", "word", "inode", "word", "word"] : Option (List Str)) from rfl)
    rw [Option.some.inj this]
    rfl
theorem ok_chk {f c fJ fF fB : Addr} {fd fdJ fdF fdB : FuncData} (F : FunC K "check_intent" "check_intent" sChk f fd c) (TB : LamX.TabB base mg c Pc) (FJ : Fun K "is_word" "is_word" sIw fJ fdJ) (GJ : FnOk P w K mg base CX0 1 fJ fdJ ["value"] spIw) (bJ : Binds K fdJ ["value"] []) (gJ : mg "is_word" = some (.ref fJ))
    (FFl : Fun K "is_field" "is_field" sFld fF fdF) (GFl : FnOk P w K mg base CX0 5 fF fdF ["what", "word"] (spFld Pi)) (bFl : Binds K fdF ["what", "word"] []) (gFl : mg "is_field" = some (.ref fF))
    (FBn : Fun K "is_within_bounds" "is_within_bounds" sBnd fB fdB) (GBn : FnOk P w K mg base CX0 1 fB fdB ["kind", "words"] (spBnd K)) (bBn : Binds K fdB ["kind", "words"] []) (gBn : mg "is_within_bounds" = some (.ref fB)) (T : Txt mg K tA aW) : FnOk P w K mg base CX0 8 f fd ["words"] (spChk K Pi Pc) := by
  obtain ⟨_, gWRITE⟩ := T.gWRITE
  refine F.ok scChk (fun vs H Q E h => ?_) (fun A outer s H vs Q E hr h => ?_)
  · obtain ⟨a, ws, rfl, _⟩ := h
    rfl
  · obtain ⟨a, ws, rfl, hS, hlen, hPi, hPc, q⟩ := h
    refine ⟨_, (pss_cons (ps_if (PW.pt (pw_or (pt_cmpR op_eq (pe_callB call_len_seq (by rfl) T.len (by decide +kernel) (pa_cons (pv 0) pa_nil)) pe_int (nomark _)) (pw_or (pt_not (pt_val (LH.pe_gen (own := [("word", 4)]) (g := (gName 4)) (b := "all") (by first | rfl | decide +kernel) (fun _ _ _ _ _ _ _ _ ok R => LH.call_all_rdy ok R) hr scChk.nd (by rfl) T.all TB rfl ⟨rfl, by decide +kernel, rfl⟩ (blkOk_by (own := [("word", 4)]) (N := ["words", "kind", "rest", "fields", "word", "what"]) (sc := defScope sChk) (by decide +kernel)) (pi_tup (pv 0)) (fun _ => rfl) (fun _ _ _ _ _ _ _ => pg_name (i := 4) scChk.nd rfl (Or.inl rfl)) (fun _ _ _ _ _ _ hr => (pe_call GJ (hr.mono (by decide)) (by rfl) gJ FJ.kp bJ .nil pass0 (pa_cons (pv 4) pa_nil)))))) (pw_or1 (pt_cmpR op_notIn_wi (pe_ix ix_tup (pv 0) pe_int (fun _ _ => rfl)) (pe_glob (v := .ref aW) rfl T.gWORDS rfl) rfl))))) (pss_one (ps_ret pe_bl)) pss_nil)
      (pss_cons (ps_asg (pv 0) (pg_star (by rfl) (pgs_cons (pg_name (i := 1) scChk.nd rfl (Or.inl rfl)) (pgs_star (pg_name (i := 2) scChk.nd rfl (Or.inl rfl)) pgs_nil))))
      (pss_cons (ps_set (i := 3) scChk.nd rfl (Or.inl rfl) (pe_ix ix_wi (pe_glob (v := .ref aW) rfl T.gWORDS rfl) (pv 1) (fun _ _ => rfl)))
      (pss_cons (ps_if (PW.pt (pw_or (pt_cmpR op_lt (pe_callB call_len_seq (by rfl) T.len (by decide +kernel) (pa_cons (pv 2) pa_nil)) (pe_callB call_len_seq (by rfl) T.len (by decide +kernel) (pa_cons (pv 3) pa_nil)) (nomark _)) (pw_or1 (PW.pt (pw_and (pt_cmpR op_gt (pe_callB call_len_seq (by rfl) T.len (by decide +kernel) (pa_cons (pv 2) pa_nil)) (pe_callB call_len_seq (by rfl) T.len (by decide +kernel) (pa_cons (pv 3) pa_nil)) (nomark _)) (pw_and1 (pt_cmpR op_ne (pv 1) (pe_glob (v := .int 6) rfl gWRITE ⟨_, rfl⟩) (nomark _)))))))) (pss_one (ps_ret pe_bl)) pss_nil)
      (pss_one (ps_ret (pe_and (LH.pe_gen (own := [("what", 5), ("word", 4)]) (g := (gTup K 2 (gCons (gName 5) (gCons (gName 4) gNil)))) (b := "all") (by first | rfl | decide +kernel) (fun _ _ _ _ _ _ _ _ ok R => LH.call_all_rdy ok R) hr scChk.nd (by rfl) T.all TB rfl ⟨rfl, by decide +kernel, rfl⟩ (blkOk_by (own := [("what", 5), ("word", 4)]) (N := ["words", "kind", "rest", "fields", "word", "what"]) (sc := defScope sChk) (by decide +kernel)) (pi_zipM (by rfl) T.zip (pa_cons (pv 3) (pa_cons (pv 2) pa_nil))) (fun _ => rfl) (fun _ _ _ _ _ _ _ => pg_tup rfl (pgs_cons (pg_name (i := 5) scChk.nd rfl (Or.inl rfl)) (pgs_cons (pg_name (i := 4) scChk.nd rfl (Or.inl rfl)) pgs_nil))) (fun _ _ _ _ _ _ hr => (pe_call GFl (hr.mono (by decide)) (by rfl) gFl FFl.kp bFl .nil pass0 (pa_cons (pv 5) (pa_cons (pv 4) pa_nil))))) (pe_one (pe_call GBn (hr.mono (by decide)) (by rfl) gBn FBn.kp bBn .nil pass0 (pa_cons (pv 1) (pa_cons (pv 2) pa_nil))))))))))), ?_⟩
    cases ws with
    | nil =>
      refine q_when (b := true) (et_is (et_or (a := true) (b := false) (et_is (et_test (ev_op (ev_lenT (ev_var rfl) hS) ev_c (rv_eq rfl))) (by simp)) (fun h => by cases h)) rfl) (fun _ H1 e1 => ?_) (fun h => by cases h)
      exact s_ret ev_c fun H2 e2 => q H2 (e1.trans e2)
    | cons k r =>
      have ea : Ev (tCB (rLenS K) (tCons (tVar 0) tNil)) [some (.ref a), none, none, none, none, none] H (.int ((k :: r).length : Int)) := ev_is (ev_lenT (ev_var rfl) hS) (by rw [List.length_map])
      refine q_when (b := !nnB (k :: r) || !(getW wordsOf k).isSome) (et_is (et_or (a := false) (et_is (et_test (ev_op ea ev_c (rv_eq rfl))) (decide_eq_false (fun h => by simp at h; omega))) (fun _ => et_or (a := !nnB (k :: r)) (et_not (et_B (ev_is (ev_gxT (xs := (k :: r).map V.int) (vals := fun i => .bl (decide (0 ≤ (k :: r).getD i 0))) (ev_var rfl) hS hPc (ok_all fun i => decide (0 ≤ (k :: r).getD i 0)) (fun _ => rfl) (fun i x H1 e1 hx => ?_)) ?_))) (fun _ => et_test (ev_op (ev_op (ev_var rfl) ev_c (rv_ixT hS (at_get (j := 0) (by simp)))) ev_c (rv_niW T.dW))))) rfl) (fun hb H1 e1 => ?_) (fun hb H1 e1 => ?_)
      · rw [get_at hx]
        exact ev_call (vs := [.int ((k :: r).getD i 0)]) (ea_cons (ev_var rfl) ea_nil) (fun H2 e2 Q' q' E' => ⟨_, rfl, q'⟩)
      · rw [List.length_map]
        rfl
      · have hf : chkB (k :: r) = false := by
          rw [chk_cons]
          cases hn : nnB (k :: r) with
          | false => rfl
          | true =>
            rw [hn, Bool.not_true, Bool.false_or] at hb
            cases hg : getW wordsOf k with
            | none => exact chkK_none hg
            | some fs => rw [hg] at hb; cases hb
        rw [hf] at q
        exact s_ret ev_c fun H2 e2 => q H2 (e1.trans e2)
      · obtain ⟨hn, hg⟩ : nnB (k :: r) = true ∧ (getW wordsOf k).isSome = true := by
          have := Bool.or_eq_false_iff.mp hb
          exact ⟨by simpa using this.1, by simpa using this.2⟩
        obtain ⟨fs, hfs⟩ := Option.isSome_iff_exists.mp hg
        have hq : chkB (k :: r) = (sizB k fs r && ((allF fs.length fun i => fldB (fs.getD i "") (r.getD i 0)) && bndB k r)) := by
          rw [chk_cons, hn, chkK_some hfs]
          rfl
        rw [hq] at q
        rw [List.length_cons] at hlen
        refine ⟨.ref a, rfl, a, .int k, r.map V.int, rfl, ex_t e1 hS, by rw [List.length_map]; omega, fun L hL => ⟨_, _, rfl, _, _, rfl, rfl, ?_⟩⟩
        have e2 : Ex H (upd H1 L (.lst (r.map V.int))) := e1.trans (Ex.new hL)
        have hL2 : upd H1 L (.lst (r.map V.int)) L = some (.lst (r.map V.int)) := upd_same
        generalize upd H1 L (.lst (r.map V.int)) = H2 at e2 hL2
        refine ⟨.int k, rfl, k, aW, wordsOf, fs, rfl, rfl, T.dW, hfs, fun t ht => ?_⟩
        have lr : ∀ {B : Hp} {σ : L2.St}, Ex H2 B → σ[2]? = some (some (.ref L)) → Ev (tCB (rLenS K) (tCons (tVar 2) tNil)) σ B (.int (r.length : Int)) := fun x h => ev_is (ev_lenL (ev_var h) (x _ _ hL2)) (by rw [List.length_map])
        have lf : ∀ {B : Hp} {σ : L2.St}, σ[3]? = some (some (.ref t)) → Ev (tCB (rLenS K) (tCons (tVar 3) tNil)) σ B (.int (fs.length : Int)) := fun h => ev_is (ev_lenT (ev_var h) (ht _)) (by rw [List.length_map])
        refine q_when (b := !sizB k fs r) (et_is (et_or (et_test (ev_op (lr (Ex.refl _) rfl) (lf rfl) rv_I0)) (fun _ => et_and (et_test (ev_op (lr (Ex.refl _) rfl) (lf rfl) rv_I0)) (fun _ => et_test (ev_op (ev_var rfl) ev_c (rv_ne rfl))))) ?_) (fun hb H3 e3 => ?_) (fun hb H3 e3 => ?_)
        · unfold sizB
          by_cases h1 : fs.length ≤ r.length <;> by_cases h2 : r.length ≤ fs.length <;> by_cases h3 : k = 6 <;> simp [h1, h2, h3] <;> omega
        · rw [show sizB k fs r = false by simpa using hb, Bool.false_and] at q
          exact s_ret ev_c fun H4 e4 => q H4 ((e2.trans e3).trans e4)
        · have hz : sizB k fs r = true := by simpa using hb
          rw [hz, Bool.true_and] at q
          have hz2 : fs.length ≤ r.length := by
            unfold sizB at hz
            exact of_decide_eq_true (Bool.and_eq_true_iff.mp hz).1
          have hz3 : r.length ≤ fs.length ∨ k = 6 := by
            unfold sizB at hz
            simpa using (Bool.and_eq_true_iff.mp hz).2
          obtain ⟨s6, s7, s8⟩ := siz_of hfs
          have nn : ∀ i, i < r.length → 0 ≤ r.getD i 0 := fun i hi => by
            have := (allF_iff.mp hn) (i + 1) (by rw [List.length_cons]; omega)
            exact of_decide_eq_true this
          refine s_ret (ev_andV (ev_is (ev_gxM (us := fs.map V.str) (xs := r.map V.int) (vals := fun i => .bl (fldB (fs.getD i "") (r.getD i 0))) (ea_cons (ev_var rfl) (ea_cons (ev_var rfl) ea_nil)) (ht _) (sq_of (e3 _ _ hL2)) rfl (by rw [List.length_map, List.length_map]; exact hz2) (hPc.mono (e2.trans e3)) (ok_all fun i => fldB (fs.getD i "") (r.getD i 0)) (fun _ _ => rfl) (fun i x y H4 e4 hx hy => ?_)) (by rw [List.length_map])) (fun _ => ev_call (vs := [.int k, .ref L]) (ea_cons (ev_var rfl) (ea_cons (ev_var rfl) ea_nil)) (fun H4 e4 Q' q' E' => ⟨k, L, r, rfl, sq_of ((e3.trans e4) _ _ hL2), fun h => by rw [s6 h] at hz2; exact hz2, fun h => by rw [s7 h] at hz2; exact hz2, fun h => by have := s8 h; omega, q'⟩))) fun H4 e4 => q H4 ((e2.trans e3).trans e4)
          have hi : i < r.length := by
            have := (List.getElem?_eq_some_iff.mp hy).1
            rwa [List.length_map] at this
          rw [get_str hx, get_at hy]
          exact ev_call (vs := [.str (fs.getD i ""), .int (r.getD i 0)]) (ea_cons (ev_var rfl) (ea_cons (ev_var rfl) ea_nil)) (fun H5 e5 Q' q' E' => ⟨_, _, rfl, nn i hi, hPi.mono (((e2.trans e3).trans e4).trans e5), q'⟩)
end

end K68

set_option Elab.async false
set_option linter.all false
set_option maxRecDepth 100000
set_option maxHeartbeats 4000000
namespace K68
open PySem PySem.Spec PyProof.Rows L2 Evl LK LT LG LS LQ LX LO LN LP LH LV LZ LW StX
/-! ### the rows of a record -/
def pI (n : Nat) : Int := ((n : Int) + 4) / 4
def padI (ys : List Int) : List Int := ((ys.length : Int) :: ys) ++ List.replicate (4 * pI ys.length - ((ys.length : Int) + 1)).toNat 0
def rowI (ys : List Int) (r g : Int) (i : Nat) : List Int := r :: (i : Int) :: pI ys.length :: (((padI ys).drop (4 * i)).take 4 ++ [g])
def rowsI (ys : List Int) (r g : Int) : List (List Int) := (List.range (pI ys.length).toNat).map (rowI ys r g)
theorem pI_pos (n : Nat) : 1 ≤ pI n := by unfold pI; omega
theorem pI_le {n : Nat} (h : n ≤ 90) : pI n ≤ 23 := by unfold pI; omega
theorem pad_len (ys : List Int) : ((padI ys).length : Int) = 4 * pI ys.length := by
  unfold padI
  rw [List.length_append, List.length_cons, List.length_replicate]
  unfold pI
  omega
theorem row_len {ys : List Int} {r g : Int} {i : Nat} (h : (i : Int) < pI ys.length) : (rowI ys r g i).length = 8 := by
  unfold rowI
  have := pad_len ys
  simp only [List.length_cons, List.length_append, List.length_take, List.length_drop, List.length_nil]
  omega
theorem rows_at {ys : List Int} {r g : Int} {i : Nat} {row : List Int} (h : (rowsI ys r g)[i]? = some row) : (i : Int) < pI ys.length ∧ row = rowI ys r g i := by
  unfold rowsI at h
  rw [List.getElem?_map] at h
  obtain ⟨j, hj, rfl⟩ := Option.map_eq_some_iff.mp h
  obtain ⟨hl, he⟩ := List.getElem?_eq_some_iff.mp hj
  rw [List.getElem_range] at he
  subst he
  rw [List.length_range] at hl
  have := pI_pos ys.length
  exact ⟨by omega, rfl⟩
theorem rows_len (ys : List Int) (r g : Int) : ((rowsI ys r g).length : Int) = pI ys.length := by
  unfold rowsI
  rw [List.length_map, List.length_range]
  have := pI_pos ys.length
  omega
/-- a list of known lists of ints -/
def LL (H : Hp) (p : Addr) (rows : List (List Int)) : Prop := ∃ ks : List Addr, H p = some (.lst (ks.map V.ref)) ∧ ks.length = rows.length ∧ ∀ (i : Nat) (k : Addr) (row : List Int), ks[i]? = some k → rows[i]? = some row → H k = some (.lst (row.map V.int))
theorem LL.ex {H H' : Hp} {p : Addr} {rows : List (List Int)} (h : LL H p rows) (e : Ex H H') : LL H' p rows :=
  let ⟨ks, h1, h2, h3⟩ := h; ⟨ks, e _ _ h1, h2, fun i k row a b => e _ _ (h3 i k row a b)⟩
/-- the same, the list p itself apart -/
def LLs (H : Hp) (ks : List Addr) (rows : List (List Int)) : Prop := ks.length = rows.length ∧ ∀ (i : Nat) (k : Addr) (row : List Int), ks[i]? = some k → rows[i]? = some row → H k = some (.lst (row.map V.int))
theorem LLs.ex {H H' : Hp} {ks : List Addr} {rows : List (List Int)} (h : LLs H ks rows) (e : Ex H H') : LLs H' ks rows := ⟨h.1, fun i k row a b => e _ _ (h.2 i k row a b)⟩
theorem LLs.snoc {H : Hp} {ks : List Addr} {rows : List (List Int)} {k : Addr} {row : List Int} (h : LLs H ks rows) (hk : H k = some (.lst (row.map V.int))) : LLs H (ks ++ [k]) (rows ++ [row]) := by
  refine ⟨by rw [List.length_append, List.length_append, h.1]; rfl, fun i k' row' a b => ?_⟩
  by_cases hi : i < ks.length
  · rw [List.getElem?_append_left hi] at a
    rw [List.getElem?_append_left (by rw [← h.1]; exact hi)] at b
    exact h.2 i k' row' a b
  · rw [List.getElem?_append_right (by omega)] at a
    rw [List.getElem?_append_right (by rw [← h.1]; omega), ← h.1] at b
    cases hx : i - ks.length with
    | zero =>
      rw [hx] at a b
      cases a
      cases b
      exact hk
    | succ j =>
      rw [hx] at a
      cases a
theorem range_take (n m : Nat) (h : n ≤ m) : (List.range m).take n = List.range n := by
  rw [List.take_range, Nat.min_eq_left h]
def spPf : Sp := fun vs H Q _ => ∃ n : Nat, vs = [.int (n : Int)] ∧ RetV (.int (pI n)) H Q
def spSo (K : PySem.W.Frag) : Sp := fun vs H Q _ => ∃ (p : Addr) (ys : List Int), vs = [.ref p] ∧ SqT K H p (ys.map V.int) ∧ RetV (.int (pI ys.length)) H Q
def spRs (K : PySem.W.Frag) : Sp := fun vs H Q _ => ∃ (p : Addr) (ys : List Int) (r g : Int), vs = [.ref p, .int r, .int g] ∧ SqT K H p (ys.map V.int) ∧ ys.length ≤ 90 ∧ ∀ q H', H q = none → Ex H H' → LL H' q (rowsI ys r g) → Q (.ref q) H'
theorem sv_pf {n : Nat} {z : Int} {H : Hp} (e : z = (n : Int)) : SpV spPf [.int z] H (.int (pI n)) := fun H1 e1 Q q E => ⟨n, by rw [e], q⟩
theorem sv_so {K : PySem.W.Frag} {p : Addr} {ys : List Int} {H : Hp} (h : SqT K H p (ys.map V.int)) : SpV (spSo K) [.ref p] H (.int (pI ys.length)) := fun H1 e1 Q q E => ⟨p, ys, rfl, ex_t e1 h, q⟩
section
variable {P : Program} {w : World} {K : PySem.W.Frag} {mg : Str → Option Value} {base : Heap} {tA : Tok} {aW : Addr}
theorem ok_pf {f : Addr} {fd : FuncData} (F : Fun K "parts_for" "parts_for" sPf f fd) (T : Txt mg K tA aW) : FnOk P w K mg base CX0 1 f fd ["many"] spPf := by
  obtain ⟨_, gGROUP_WORDS⟩ := T.gGROUP_WORDS
  refine F.ok scPf (fun vs H Q E h => ?_) (fun cdv A outer s H vs Q E hr h => ?_)
  · obtain ⟨n, rfl, _⟩ := h
    rfl
  · obtain ⟨n, rfl, q⟩ := h
    refine ⟨_, (pss_one (ps_ret (pe_op op_fdiv (pe_op op_add (pv 0) (pe_glob (v := .int 4) rfl gGROUP_WORDS ⟨_, rfl⟩)) (pe_glob (v := .int 4) rfl gGROUP_WORDS ⟨_, rfl⟩)))), ?_⟩
    exact s_ret (ev_op (ev_op (ev_var rfl) ev_c rv_I0) ev_c (rv_I ⟨by decide, by decide⟩)) fun H1 e1 => q H1 e1
theorem ok_so {f fP : Addr} {fd fdP : FuncData} (F : Fun K "sectors_of" "sectors_of" sSo f fd) (FPf : Fun K "parts_for" "parts_for" sPf fP fdP) (bPf : Binds K fdP ["many"] []) (gPf : mg "parts_for" = some (.ref fP)) (GPf : FnOk P w K mg base CX0 1 fP fdP ["many"] spPf) (T : Txt mg K tA aW) : FnOk P w K mg base CX0 2 f fd ["intent"] (spSo K) := by
  refine F.ok scSo (fun vs H Q E h => ?_) (fun cdv A outer s H vs Q E hr h => ?_)
  · obtain ⟨p, ys, rfl, _⟩ := h
    rfl
  · obtain ⟨p, ys, rfl, hY, q⟩ := h
    refine ⟨_, (pss_one (ps_ret (pe_call GPf (hr.mono (by decide)) (by rfl) gPf FPf.kp bPf .nil pass0 (pa_cons (pe_callB call_len_seq (by rfl) T.len (by decide +kernel) (pa_cons (pv 0) pa_nil)) pa_nil)))), ?_⟩
    exact s_ret (ev_call (ea_cons (ev_is (ev_lenT (ev_var rfl) hY) rfl) ea_nil) (sv_pf (by rw [List.length_map]))) fun H1 e1 => q H1 e1
theorem ok_rs {f fS : Addr} {fd fdS : FuncData} (F : Fun K "record_sectors" "record_sectors" sRs f fd) (FSo : Fun K "sectors_of" "sectors_of" sSo fS fdS) (bSo : Binds K fdS ["intent"] []) (gSo : mg "sectors_of" = some (.ref fS)) (GSo : FnOk P w K mg base CX0 2 fS fdS ["intent"] (spSo K)) (T : Txt mg K tA aW) : FnOk P w K mg base CX0 3 f fd ["intent", "record", "generation"] (spRs K) := by
  obtain ⟨_, gGROUP_WORDS⟩ := T.gGROUP_WORDS
  refine F.ok scRs (fun vs H Q E h => ?_) (fun cdv A outer s H vs Q E hr h => ?_)
  · obtain ⟨p, ys, r, g, rfl, _⟩ := h
    rfl
  · obtain ⟨p, ys, r, g, rfl, hY, hlen, q⟩ := h
    refine ⟨_, (pss_cons (ps_set (i := 3) scRs.nd rfl (Or.inl rfl) (pe_call GSo (hr.mono (by decide)) (by rfl) gSo FSo.kp bSo .nil pass0 (pa_cons (pv 0) pa_nil)))
      (pss_cons (ps_set (i := 4) scRs.nd rfl (Or.inl rfl) (pe_lst (pa_cons (pe_callB call_len_seq (by rfl) T.len (by decide +kernel) (pa_cons (pv 0) pa_nil)) (pa_star (pv 0) pa_nil))))
      (pss_cons (ps_set (i := 5) scRs.nd rfl (Or.inl rfl) (pe_op op_cat (pv 4) (pe_op op_rep (pe_lst (pa_cons pe_int pa_nil)) (pe_op op_sub (pe_op op_mul (pe_glob (v := .int 4) rfl gGROUP_WORDS ⟨_, rfl⟩) (pv 3)) (pe_callB call_len_seq (by rfl) T.len (by decide +kernel) (pa_cons (pv 4) pa_nil))))))
      (pss_cons (ps_set (i := 6) scRs.nd rfl (Or.inl rfl) (pe_lst pa_nil))
      (pss_cons (ps_for PassesOwn.never rfl (pi_range1 (by rfl) T.range (pa_cons (pv 3) pa_nil)) (pg_name (i := 7) scRs.nd rfl (Or.inl rfl)) (pss_cons (ps_set (i := 8) scRs.nd rfl (Or.inl rfl) (pe_op op_mul (pe_glob (v := .int 4) rfl gGROUP_WORDS ⟨_, rfl⟩) (pv 7)))
      (pss_one (ps_expr (pe_bm PySem.F.plainAttrs_list PySem.F.slot_list_append PySem.F.type_list_append mt_append (pv 6) (pa_cons (pe_lst (pa_cons (pv 1) (pa_cons (pv 7) (pa_cons (pv 3) (pa_star (pe_slice sl_list (pv 5) (po_some (pv 8)) (po_some (pe_op op_add (pv 8) (pe_glob (v := .int 4) rfl gGROUP_WORDS ⟨_, rfl⟩)))) (pa_cons (pv 2) pa_nil)))))) pa_nil))))))
      (pss_one (ps_ret (pv 6)))))))), ?_⟩
    have hp1 := pI_pos ys.length
    have hp2 := pI_le hlen
    refine q_asg (ev_call (ea_cons (ev_var rfl) ea_nil) (sv_so hY)) fun H1 e1 => ?_
    refine q_asgL (el_is (ys := (((ys.length : Int) :: ys).map V.int)) (el_lst (ea_cons (ev_lenT (ev_var rfl) (ex_t e1 hY)) (ea_starT (ev_var rfl) (ex_t e1 hY) ea_nil)) (by simp; omega)) (by simp)) fun wl H2 hw e2 h2 => ?_
    refine q_asgL (el_is (ys := (padI ys).map V.int) (el_cat (ev_var rfl) h2 (el_rep1 (z := 4 * pI ys.length - ((ys.length : Int) + 1)) (el_lst (ea_cons ev_c ea_nil) (by decide)) (ev_op (ev_op ev_c (ev_var rfl) (rv_I (.inl ⟨by decide, by decide⟩))) (ev_is (ev_lenL (ev_var rfl) h2) (by simp)) rv_I0) (by unfold pI; omega) (by omega)) (by simp; omega)) (by unfold padI; rw [List.map_append, List.map_replicate])) fun pl H3 hp e3 h3 => ?_
    refine q_asgL (el_lst ea_nil (by decide)) fun sl H4 hs e4 h4 => ?_
    have nsl : H sl = none := fresh_back ((e1.trans e2).trans e3) hs
    refine q_forR1 (n := pI ys.length) (ea_cons (ev_var rfl) ea_nil) ⟨by omega, by omega⟩
      (fun i σ' H' => ∃ y1 y2 ks, σ' = [some (.ref p), some (.int r), some (.int g), some (.int (pI ys.length)), some (.ref wl), some (.ref pl), some (.ref sl), y1, y2] ∧ Ex H3 H' ∧ H' sl = some (.lst (ks.map V.ref)) ∧ LLs (but sl H') ks ((List.range i).map (rowI ys r g)))
      (fun H5 e5 => ⟨none, none, [], rfl, e4.trans e5, e5 _ _ h4, rfl, fun i k row a => nomatch a⟩) ?_ ?_
    · rintro i σ' H' hi ⟨y1, y2, ks, rfl, e5, hks, hL⟩
      have hlp := pad_len ys
      refine q_asg (ev_op ev_c (ev_var rfl) (rv_I (.inl ⟨by decide, by decide⟩))) fun H6 e6 => ?_
      have hcut : cutV ((padI ys).map V.int) (some (4 * (i : Int))) (some (4 * (i : Int) + 4)) = (((padI ys).drop (4 * i)).take 4).map V.int := by
        have := cut_mid ((padI ys).map V.int) (i := 4 * i) (j := 4 * i + 4) (by omega) (by rw [List.length_map]; omega)
        rw [show ((4 * i : Nat) : Int) = 4 * (i : Int) by omega, show ((4 * i + 4 : Nat) : Int) = 4 * (i : Int) + 4 by omega] at this
        rw [this, ← List.map_drop, ← List.map_take, show 4 * i + 4 - 4 * i = 4 by omega]
      refine s_appL (e6 _ _ hks) (ev_var rfl) (el_is (ys := (rowI ys r g i).map V.int) (el_lst (ea_cons (ev_var rfl) (ea_cons (ev_var rfl) (ea_cons (ev_var rfl) (ea_starN (el_is (el_sl (ev_var rfl) (eo_some (ev_var rfl)) (eo_some (ev_op (ev_var rfl) ev_c rv_I0)) (sq_of ((e5.trans e6) _ _ h3))) hcut) (ea_cons (ev_var rfl) ea_nil))))) (by simp; omega)) (by unfold rowI; simp)) (by rw [List.length_map, hL.1, List.length_map, List.length_range]; omega) fun k H7 hk e7 h7 => ?_
      have nks : k ≠ sl := fun z => by rw [z, e6 _ _ hks] at hk; cases hk
      refine ⟨_, _, ks ++ [k], rfl, ((e5.trans e6).trans e7).mut hs, by rw [upd_same, List.map_append]; rfl, ?_⟩
      rw [List.range_succ, List.map_append]
      rw [but_upd]
      exact (hL.ex (ex_but (e6.trans e7))).snoc (by rw [but_ne nks]; exact h7)
    · rintro σ' H' ⟨y1, y2, ks, rfl, e5, hks, hL⟩
      exact s_ret (ev_var rfl) fun H6 e6 => q sl H6 nsl (((e1.trans e2).trans e3).trans (e5.trans e6)) ⟨ks, e6 _ _ hks, hL.1, ((hL.ex but_ex).ex e6).2⟩
end

section
variable {P : Program} {w : World} {K : PySem.W.Frag} {mg : Str → Option Value} {base : Heap} {tA : Tok} {aW : Addr}
theorem ok_cl {f : Addr} {fd : FuncData} (F : Fun K "_law_cell" "_law_cell" sCl f fd) (T : Txt mg K tA aW) : FnOk P w K mg base CX0 1 f fd ["script", "k"] (spCel K) := by
  refine F.ok scCl (fun vs H Q E h => ?_) (fun cdv A outer s H vs Q E hr h => ?_)
  · obtain ⟨a, ns, k, rfl, _⟩ := h
    rfl
  · obtain ⟨a, ns, k, rfl, hS, q⟩ := h
    refine ⟨_, (pss_cons (ps_if (pt_cmpR op_lt (pv 1) (pe_callB call_len_seq (by rfl) T.len (by decide +kernel) (pa_cons (pv 0) pa_nil)) (nomark _)) (pss_one (ps_ret (pe_callTy call_int1 (by rfl) T.int (by decide +kernel) (pa_cons (pe_ix ix_list (pv 0) (pv 1) (fun _ _ => rfl)) pa_nil)))) pss_nil)
      (pss_one (ps_ret pe_int))), ?_⟩
    refine q_when (et_test (ev_op (ev_var rfl) (ev_len (ev_var rfl) hS) rv_I0)) (fun hb H1 e1 => ?_) (fun hb H1 e1 => ?_)
    · have hk : k < ns.length := by
        have := of_decide_eq_true hb
        rw [List.length_map] at this
        omega
      exact s_ret (ev_int1 (ev_op (ev_var rfl) (ev_var rfl) (rv_ixL (ex_l e1 hS) (atI_nat (cellv_in hk))))) fun H2 e2 => q H2 (e1.trans e2)
    · have hk : ns.length ≤ k := by
        have := of_decide_eq_false hb
        rw [List.length_map] at this
        omega
      rw [cellv_out hk] at q
      exact s_ret ev_c fun H2 e2 => q H2 (e1.trans e2)
end

def DigOk (ds : List Int) (bs : List Int) : Prop := ds.length = bs.length ∧ ∀ (i : Nat) (d b : Int), ds[i]? = some d → bs[i]? = some b → 0 ≤ d ∧ d < b
/-- the bases: from 1 on, below 2^30 -/
def BsOk (bs : List Int) : Prop := ∀ b ∈ bs, 0 < b ∧ b < 2 ^ 30
def spDg (K : PySem.W.Frag) : Sp := fun vs H Q _ => ∃ (c : Int) (p : Addr) (bs : List Int), vs = [.int c, .ref p] ∧ SqL K H p (bs.map V.int) ∧ BsOk bs ∧ bs.length ≤ 1000 ∧ ∀ l H' ds, H l = none → Ex H H' → H' l = some (.lst (ds.map V.int)) → DigOk ds bs → Q (.ref l) H'
section
variable {P : Program} {w : World} {K : PySem.W.Frag} {mg : Str → Option Value} {base : Heap} {tA : Tok} {aW : Addr}
theorem ok_dg {f : Addr} {fd : FuncData} (F : Fun K "_law_digits" "_law_digits" sDg f fd) (T : Txt mg K tA aW) : FnOk P w K mg base CX0 1 f fd ["cell", "bases"] (spDg K) := by
  refine F.ok scDg (fun vs H Q E h => ?_) (fun cdv A outer s H vs Q E hr h => ?_)
  · obtain ⟨c, p, bs, rfl, _⟩ := h
    rfl
  · obtain ⟨c, p, bs, rfl, hB, hb, hlen, q⟩ := h
    refine ⟨_, (pss_cons (ps_set (i := 2) scDg.nd rfl (Or.inl rfl) (pe_lst pa_nil))
      (pss_cons (ps_set (i := 3) scDg.nd rfl (Or.inl rfl) (pe_callTy call_int1 (by rfl) T.int (by decide +kernel) (pa_cons (pv 0) pa_nil)))
      (pss_cons (ps_for PassesOwn.never rfl (pi_list (pv 1)) (pg_name (i := 4) scDg.nd rfl (Or.inl rfl)) (pss_one (ps_if (pt_cmpR op_ge (pv 0) (pe_op op_pow pe_int pe_int) (nomark _)) (pss_cons (ps_expr (pe_bm PySem.F.plainAttrs_list PySem.F.slot_list_append PySem.F.type_list_append mt_append (pv 2) (pa_cons (pe_op op_mod (pe_callTy call_int1 (by rfl) T.int (by decide +kernel) (pa_cons (pv 3) pa_nil)) (pv 4)) pa_nil)))
      (pss_one (ps_set (i := 3) scDg.nd rfl (Or.inl rfl) (pe_op op_fdiv (pv 3) (pv 4))))) (pss_cons (ps_set (i := 3) scDg.nd rfl (Or.inl rfl) (pe_op op_mod (pe_op op_add (pe_op op_add (pe_op op_mul (pe_callTy call_int1 (by rfl) T.int (by decide +kernel) (pa_cons (pv 3) pa_nil)) pe_int) (pe_op op_mul pe_int (pe_callB call_len_seq (by rfl) T.len (by decide +kernel) (pa_cons (pv 2) pa_nil)))) pe_int) pe_int))
      (pss_cons (ps_set (i := 5) scDg.nd rfl (Or.inl rfl) (pe_op op_mod (pe_op op_mul (pe_callTy call_int1 (by rfl) T.int (by decide +kernel) (pa_cons (pv 3) pa_nil)) (pe_callTy call_int1 (by rfl) T.int (by decide +kernel) (pa_cons (pv 3) pa_nil))) pe_int))
      (pss_one (ps_expr (pe_bm PySem.F.plainAttrs_list PySem.F.slot_list_append PySem.F.type_list_append mt_append (pv 2) (pa_cons (pe_op op_mod (pe_op op_fdiv (pe_callTy call_int1 (by rfl) T.int (by decide +kernel) (pa_cons (pv 5) pa_nil)) pe_int) (pv 4)) pa_nil)))))))))
      (pss_one (ps_ret (pv 2)))))), ?_⟩
    refine q_asgL (el_lst ea_nil (by decide)) fun dl H1 hd e1 h1 => ?_
    refine q_asg (ev_int1 (ev_var rfl)) fun H2 e2 => ?_
    refine q_forLn (ev_var rfl) (ex_l (e1.trans e2) hB) (fun i σ' H' => ∃ (r : Int) (y4 y5 : Option V) (ds : List Int), σ' = [some (.int c), some (.ref p), some (.ref dl), some (.int r), y4, y5] ∧ Ex H H' ∧ H' dl = some (.lst (ds.map V.int)) ∧ ds.length = i ∧ ∀ (j : Nat) (d b : Int), ds[j]? = some d → bs[j]? = some b → 0 ≤ d ∧ d < b)
      (fun H3 e3 => ⟨c, none, none, [], rfl, (e1.trans e2).trans e3, e3 _ _ (e2 _ _ h1), rfl, fun j d b h => nomatch h⟩) (fun i σ' H' _ p => by obtain ⟨_, _, _, _, _, e, _⟩ := p; exact ex_l e hB) (fun i x σ' H' hx p => ?_) (fun σ' H' p => ?_)
    · obtain ⟨r, y4, y5, ds, rfl, e3, hl, hi, hds⟩ := p
      rw [List.getElem?_map] at hx
      obtain ⟨b, hbi, rfl⟩ := Option.map_eq_some_iff.mp hx
      have hil := (List.getElem?_eq_some_iff.mp hbi).1
      have hb1 := hb b (List.mem_of_getElem? hbi)
      have step : ∀ d : Int, 0 ≤ d → d < b → ∀ (j : Nat) (d' b' : Int), (ds ++ [d])[j]? = some d' → bs[j]? = some b' → 0 ≤ d' ∧ d' < b' := fun d h0 h1 j d' b' a1 a2 => by
        by_cases hj : j < ds.length
        · rw [List.getElem?_append_left hj] at a1
          exact hds j d' b' a1 a2
        · rw [List.getElem?_append_right (by omega)] at a1
          cases hx : j - ds.length with
          | zero =>
            rw [hx] at a1
            have : j = i := by omega
            rw [this, hbi] at a2
            cases a1
            cases a2
            exact ⟨h0, h1⟩
          | succ k =>
            rw [hx] at a1
            cases a1
      have hm : ∀ z : Int, 0 ≤ z % b ∧ z % b < b := fun z => ⟨Int.emod_nonneg _ (by omega), Int.emod_lt_of_pos _ hb1.1⟩
      refine s_if (et_test (ev_op (ev_var rfl) (ev_op ev_c ev_c (rv_I ⟨by decide, by decide, by decide⟩)) rv_I0)) (fun _ H4 e4 => ?_) (fun _ H4 e4 => ?_)
      · refine q_app (v := .int (r % b)) (e4 _ _ hl) (ev_var rfl) (ev_op (ev_int1 (ev_var rfl)) (ev_var rfl) (rv_I hb1.1)) (by rw [List.length_map]; omega) fun H5 e5 => ?_
        refine s_asg (ev_op (ev_var rfl) (ev_var rfl) (rv_I hb1)) fun H6 e6 => ⟨_, _, _, ds ++ [r % b], rfl, (((e3.trans e4).trans e5).mut hd).trans e6, by rw [e6 _ _ upd_same, List.map_append]; rfl, by rw [List.length_append, hi]; rfl, step _ (hm r).1 (hm r).2⟩
      · have len : Ev (tCB (rLenS K) (tCons (tVar 2) tNil)) (List.set [some (.int c), some (.ref p), some (.ref dl), some (.int r), y4, y5] 4 (some (.int b))) H4 (.int (ds.length : Int)) := ev_is (ev_lenL (ev_var rfl) (e4 _ _ hl)) (by rw [List.length_map])
        refine q_asg (ev_op (ev_op (ev_op (ev_op (ev_int1 (ev_var rfl)) ev_c (rv_I (.inr ⟨by decide, by decide⟩))) (ev_op ev_c len (rv_I (.inl ⟨by decide, by decide⟩))) rv_I0) ev_c rv_I0) ev_c (rv_I (by show (0 : Int) < 2147483647; decide))) fun H5 e5 => ?_
        have hz1 : 0 ≤ (r * 48271 + 1009 * (ds.length : Int) + 12345) % 2147483647 ∧ (r * 48271 + 1009 * (ds.length : Int) + 12345) % 2147483647 < 2147483647 := ⟨Int.emod_nonneg _ (by decide), Int.emod_lt_of_pos _ (by decide)⟩
        generalize (r * 48271 + 1009 * (ds.length : Int) + 12345) % 2147483647 = z at hz1 ⊢
        refine q_asg (ev_op (ev_op (ev_int1 (ev_var rfl)) (ev_int1 (ev_var rfl)) (rv_I (.inl ⟨by omega, by omega⟩))) ev_c (rv_I (by show (0 : Int) < 2147483629; decide))) fun H6 e6 => ?_
        refine s_app (v := .int (z * z % 2147483629 / 13 % b)) ((e4.trans (e5.trans e6)) _ _ hl) (ev_var rfl) (ev_op (ev_op (ev_int1 (ev_var rfl)) ev_c (rv_I ⟨by decide, by decide⟩)) (ev_var rfl) (rv_I hb1.1)) (by rw [List.length_map]; omega) fun H7 e7 => ⟨_, _, _, ds ++ [z * z % 2147483629 / 13 % b], rfl, (((e3.trans e4).trans (e5.trans e6)).trans e7).mut hd, by rw [upd_same, List.map_append]; rfl, by rw [List.length_append, hi]; rfl, step _ (hm _).1 (hm _).2⟩
    · obtain ⟨r, y4, y5, ds, rfl, e3, hl, hi, hds⟩ := p
      rw [List.length_map] at hi
      exact s_ret (ev_var rfl) fun H4 e4 => q dl H4 ds hd (e3.trans e4) (e4 _ _ hl) ⟨hi, hds⟩
end

def MAIN : Int := 13 * 40 ^ 10 + 1 * 40 ^ 9 + 9 * 40 ^ 8 + 14 * 40 ^ 7
def wv (d : Int) : Int := if d = 0 then 40 ^ 10 else if d = 1 then 2 * 40 ^ 10 else 39 * 40 ^ 10
def Wd (z : Int) : Prop := z = 40 ^ 10 ∨ z = 2 * 40 ^ 10 ∨ z = 39 * 40 ^ 10
theorem wv_ok {d : Int} (h : 0 ≤ d ∧ d < 3) : Wd (wv d) := by
  rcases (by omega : d = 0 ∨ d = 1 ∨ d = 2) with rfl | rfl | rfl
  · exact .inl rfl
  · exact .inr (.inl rfl)
  · exact .inr (.inr rfl)
theorem wv_at {d : Int} (h : 0 ≤ d ∧ d < 3) : atI [V.int (40 ^ 10), V.int (2 * 40 ^ 10), V.int (39 * 40 ^ 10)] d = some (V.int (wv d)) := by
  rcases (by omega : d = 0 ∨ d = 1 ∨ d = 2) with rfl | rfl | rfl <;> rfl
theorem dv0 {a b : Int} (h : 0 ≤ a) (hb : 0 < b) : 0 ≤ a / b := Int.ediv_nonneg h (by omega)
theorem dv1 {a b m : Int} (h : 0 ≤ a ∧ a < m) (hb : 0 < b) : a / b < m := Int.lt_of_le_of_lt (Int.ediv_le_self _ h.1) h.2
/-- an intent of the law's -/
inductive Intent (m : Int) : List Int → Prop
  | k1 {i w k o : Int} (hi : 1 ≤ i) (hw : Wd w) (hk : 1 ≤ k ∧ k ≤ 2) (ho : 0 ≤ o ∧ o ≤ 255) : Intent m [1, MAIN, i, w, k, o]
  | k2 {i j w : Int} (hi : 1 ≤ i) (hj : 1 ≤ j) (hw : Wd w) : Intent m [2, MAIN, i, j, w]
  | k34 {k i w : Int} (hk : k = 3 ∨ k = 4) (hi : 1 ≤ i) (hw : Wd w) : Intent m [k, MAIN, i, w]
  | k5 {i w j x : Int} (hi : 1 ≤ i) (hw : Wd w) (hj : 1 ≤ j) (hx : Wd x) : Intent m [5, MAIN, i, w, j, x]
  | k6 {i a : Int} {cs : List Int} (hi : 1 ≤ i) (ha : 0 ≤ a) (hn : 1 ≤ cs.length ∧ (cs.length : Int) ≤ m) (hs : a + cs.length ≤ 2048) (hc : ∀ c ∈ cs, 0 ≤ c) : Intent m ([6, MAIN, i, a] ++ cs)
  | k7 {i a : Int} (hi : 1 ≤ i) (ha : 0 ≤ a) (h : a < 2049) : Intent m [7, MAIN, i, a]
  | k8 {i a j b u : Int} (hi : 1 ≤ i) (ha : 0 ≤ a) (ha2 : a < 61) (hj : 1 ≤ j) (hb : 0 ≤ b) (hb2 : b < 61) (hu : 1 ≤ u ∧ u ≤ 4) : Intent m [8, MAIN, i, a, j, b, u]
  | k9 {i o : Int} (hi : 1 ≤ i) (ho : 0 ≤ o ∧ o ≤ 255) : Intent m [9, MAIN, i, o]
  | k10 {i : Int} (hi : 1 ≤ i) : Intent m [10, MAIN, i]
theorem Intent.len {m : Int} {ys : List Int} (h : Intent m ys) (hm : m ≤ 64) : 3 ≤ ys.length ∧ ys.length ≤ 68 := by
  cases h with
  | k6 hi ha hn hs hc =>
    simp only [List.length_append, List.length_cons, List.length_nil]
    omega
  | _ => exact ⟨by simp, by simp⟩
def spIn : Sp := fun vs H Q _ => ∃ (c m : Int), vs = [.int c, .int m] ∧ 1 ≤ m ∧ m ≤ 64 ∧ ∀ p H' ys, H p = none → Ex H H' → H' p = some (.tup (ys.map V.int)) → Intent m ys → Q (.ref p) H'
section
variable {P : Program} {w : World} {K : PySem.W.Frag} {mg : Str → Option Value} {base : Heap} {tA : Tok} {aW : Addr}
theorem el_cat2 {σ : L2.St} {H : Hp} {ta tb : TE} {l : Addr} {xs ys : List V} (ha : EvL ta σ H xs) (hb : Ev tb σ H (.ref l)) (hl : H l = some (.lst ys)) (hz : xs.length + ys.length ≤ 100000) : EvL (tOp rCat ta tb) σ H (xs ++ ys) := fun H1 e Q q =>
  ha H1 e _ fun a H2 ha2 e2 h2 => hb H2 (e.trans e2) _ fun H3 e3 => ⟨a, l, xs, ys, rfl, rfl, e3 _ _ h2, (e.trans (e2.trans e3)) _ _ hl, sz_of hz, fun p hp => q p _ (fresh_back (e2.trans e3) hp) ((e2.trans e3).trans (Ex.new hp)) upd_same⟩
theorem ok_in {f fD : Addr} {fd fdD : FuncData} (F : Fun K "_law_intent" "_law_intent" sIn f fd) (FDg : Fun K "_law_digits" "_law_digits" sDg fD fdD) (bDg : Binds K fdD ["cell", "bases"] []) (gDg : mg "_law_digits" = some (.ref fD)) (GDg : FnOk P w K mg base CX0 1 fD fdD ["cell", "bases"] (spDg K)) (T : Txt mg K tA aW) : FnOk P w K mg base CX0 2 f fd ["cell", "most"] spIn := by
  refine F.ok scIn (fun vs H Q E h => ?_) (fun cdv A outer s H vs Q E hr h => ?_)
  · obtain ⟨c, m, rfl, _⟩ := h
    rfl
  · obtain ⟨c, m, rfl, hm1, hm2, q⟩ := h
    refine ⟨_, (pss_cons (ps_set (i := 2) scIn.nd rfl (Or.inr rfl) (pe_call GDg (hr.mono (by decide)) (by rfl) gDg FDg.kp bDg .nil pass0 (pa_cons (pv 0) (pa_cons (pe_lst (pa_cons pe_int (pa_cons pe_int (pa_cons pe_int (pa_cons pe_int (pa_cons pe_int (pa_cons pe_int (pa_cons pe_int (pa_cons (pv 1) (pa_cons pe_int (pa_cons pe_int (pa_cons pe_int (pa_cons pe_int (pa_cons (pe_op op_pow pe_int pe_int) pa_nil)))))))))))))) pa_nil))))
      (pss_cons (ps_set (i := 3) scIn.nd rfl (Or.inl rfl) (pe_lst (pa_cons (pe_op op_pow pe_int pe_int) (pa_cons (pe_op op_mul pe_int (pe_op op_pow pe_int pe_int)) (pa_cons (pe_op op_mul pe_int (pe_op op_pow pe_int pe_int)) pa_nil)))))
      (pss_cons (ps_set (i := 4) scIn.nd rfl (Or.inl rfl) (pe_op op_add pe_int (pe_ix ix_list (pv 2) pe_int (fun _ _ => rfl))))
      (pss_cons (ps_set (i := 5) scIn.nd rfl (Or.inl rfl) (pe_op op_add pe_int (pe_ix ix_list (pv 2) pe_int (fun _ _ => rfl))))
      (pss_cons (ps_set (i := 6) scIn.nd rfl (Or.inl rfl) (pe_op op_add pe_int (pe_ix ix_list (pv 2) pe_int (fun _ _ => rfl))))
      (pss_cons (ps_set (i := 7) scIn.nd rfl (Or.inl rfl) (pe_op op_add (pe_op op_add (pe_op op_add (pe_op op_mul pe_int (pe_op op_pow pe_int pe_int)) (pe_op op_mul pe_int (pe_op op_pow pe_int pe_int))) (pe_op op_mul pe_int (pe_op op_pow pe_int pe_int))) (pe_op op_mul pe_int (pe_op op_pow pe_int pe_int))))
      (pss_cons (ps_if (pt_cmpR op_eq (pv 4) pe_int (nomark _)) (pss_one (ps_ret (pe_tup (pa_cons pe_int (pa_cons (pv 7) (pa_cons (pv 5) (pa_cons (pe_ix ix_list (pv 3) (pe_ix ix_list (pv 2) pe_int (fun _ _ => rfl)) (fun _ _ => rfl)) (pa_cons (pe_op op_add pe_int (pe_ix ix_list (pv 2) pe_int (fun _ _ => rfl))) (pa_cons (pe_ix ix_list (pv 2) pe_int (fun _ _ => rfl)) pa_nil))))))))) pss_nil)
      (pss_cons (ps_if (pt_cmpR op_eq (pv 4) pe_int (nomark _)) (pss_one (ps_ret (pe_tup (pa_cons pe_int (pa_cons (pv 7) (pa_cons (pv 5) (pa_cons (pv 6) (pa_cons (pe_ix ix_list (pv 3) (pe_ix ix_list (pv 2) pe_int (fun _ _ => rfl)) (fun _ _ => rfl)) pa_nil)))))))) pss_nil)
      (pss_cons (ps_if (PW.pt (pw_or (pt_cmpR op_eq (pv 4) pe_int (nomark _)) (pw_or1 (pt_cmpR op_eq (pv 4) pe_int (nomark _))))) (pss_one (ps_ret (pe_tup (pa_cons (pv 4) (pa_cons (pv 7) (pa_cons (pv 5) (pa_cons (pe_ix ix_list (pv 3) (pe_ix ix_list (pv 2) pe_int (fun _ _ => rfl)) (fun _ _ => rfl)) pa_nil))))))) pss_nil)
      (pss_cons (ps_if (pt_cmpR op_eq (pv 4) pe_int (nomark _)) (pss_one (ps_ret (pe_tup (pa_cons pe_int (pa_cons (pv 7) (pa_cons (pv 5) (pa_cons (pe_ix ix_list (pv 3) (pe_ix ix_list (pv 2) pe_int (fun _ _ => rfl)) (fun _ _ => rfl)) (pa_cons (pv 6) (pa_cons (pe_ix ix_list (pv 3) (pe_ix ix_list (pv 2) pe_int (fun _ _ => rfl)) (fun _ _ => rfl)) pa_nil))))))))) pss_nil)
      (pss_cons (ps_if (pt_cmpR op_eq (pv 4) pe_int (nomark _)) (pss_cons (ps_set (i := 8) scIn.nd rfl (Or.inl rfl) (pe_op op_add pe_int (pe_ix ix_list (pv 2) pe_int (fun _ _ => rfl))))
      (pss_cons (ps_setLc (i := 9) (own := [("k", 10)]) (g := gName 10) (tt := tYes) rfl scIn.nd rfl rfl (sw_true rfl rfl rfl (by decide +kernel)) (pi_range1 (by rfl) T.range (pa_cons (pv 8) pa_nil)) (blkOk_by (own := [("k", 10)]) (N := ["cell", "most", "digits", "words", "kind", "inode", "other", "main", "size", "cells", "k"]) (sc := defScope sIn) (by decide +kernel)) (fun _ _ _ _ _ => pg_name (i := 10) scIn.nd rfl (Or.inl rfl)) (fun _ _ _ _ _ => pts_nil) (fun _ _ _ _ _ => (pe_op op_add (pe_ix (r := rIxL K) ix_list (pv 2) pe_int (fun _ _ => rfl)) (pe_op op_mul (pv 10) (pe_ix (r := rIxL K) ix_list (pv 2) pe_int (fun _ _ => rfl))))))
      (pss_one (ps_ret (pe_callTy call_tuple_of (by rfl) T.tuple (by decide +kernel) (pa_cons (pe_op op_cat (pe_lst (pa_cons pe_int (pa_cons (pv 7) (pa_cons (pv 5) (pa_cons (pe_callB (call_min2 rfl) (by rfl) T.min (by decide +kernel) (pa_cons (pe_op op_fdiv (pe_ix ix_list (pv 2) pe_int (fun _ _ => rfl)) (pe_op op_add pe_int (pe_op op_mul pe_int (pe_ix ix_list (pv 2) pe_int (fun _ _ => rfl))))) (pa_cons (pe_op op_sub pe_int (pv 8)) pa_nil))) pa_nil))))) (pv 9)) pa_nil)))))) pss_nil)
      (pss_cons (ps_if (pt_cmpR op_eq (pv 4) pe_int (nomark _)) (pss_one (ps_ret (pe_tup (pa_cons pe_int (pa_cons (pv 7) (pa_cons (pv 5) (pa_cons (pe_op op_fdiv (pe_ix ix_list (pv 2) pe_int (fun _ _ => rfl)) (pe_op op_add pe_int (pe_op op_mul pe_int (pe_ix ix_list (pv 2) pe_int (fun _ _ => rfl))))) pa_nil))))))) pss_nil)
      (pss_cons (ps_if (pt_cmpR op_eq (pv 4) pe_int (nomark _)) (pss_one (ps_ret (pe_tup (pa_cons pe_int (pa_cons (pv 7) (pa_cons (pv 5) (pa_cons (pe_op op_fdiv (pe_ix ix_list (pv 2) pe_int (fun _ _ => rfl)) (pe_op op_add pe_int (pe_op op_mul pe_int (pe_ix ix_list (pv 2) pe_int (fun _ _ => rfl))))) (pa_cons (pv 6) (pa_cons (pe_op op_fdiv (pe_ix ix_list (pv 2) pe_int (fun _ _ => rfl)) (pe_op op_add pe_int (pe_op op_mul pe_int (pe_ix ix_list (pv 2) pe_int (fun _ _ => rfl))))) (pa_cons (pe_op op_add pe_int (pe_op op_mod (pe_ix ix_list (pv 2) pe_int (fun _ _ => rfl)) pe_int)) pa_nil)))))))))) pss_nil)
      (pss_cons (ps_if (pt_cmpR op_eq (pv 4) pe_int (nomark _)) (pss_one (ps_ret (pe_tup (pa_cons pe_int (pa_cons (pv 7) (pa_cons (pv 5) (pa_cons (pe_ix ix_list (pv 2) pe_int (fun _ _ => rfl)) pa_nil))))))) pss_nil)
      (pss_one (ps_ret (pe_tup (pa_cons pe_int (pa_cons (pv 7) (pa_cons (pv 5) pa_nil)))))))))))))))))))), ?_⟩
    refine q_call2L (ev_var rfl) (el_is (ys := [10, 5, 3, 5, 3, 2, 256, m, 2049, 61, 61, 4, 10 ^ 6].map V.int) (el_lst (ea_cons ev_c (ea_cons ev_c (ea_cons ev_c (ea_cons ev_c (ea_cons ev_c (ea_cons ev_c (ea_cons ev_c (ea_cons (ev_var rfl) (ea_cons ev_c (ea_cons ev_c (ea_cons ev_c (ea_cons ev_c (ea_cons (ev_op ev_c ev_c (rv_I ⟨by decide, by decide, by decide⟩)) ea_nil))))))))))))) (Nat.le_of_ble_eq_true rfl)) rfl) fun bl H1 hb1 e1 h1 => ?_
    refine ⟨c, bl, [10, 5, 3, 5, 3, 2, 256, m, 2049, 61, 61, 4, 10 ^ 6], rfl, sq_of h1, fun b hb => ?_, by show 13 ≤ 1000; decide, fun dl H2 ds hd0 e2 hd hok => ?_⟩
    · simp only [List.mem_cons, List.not_mem_nil, or_false] at hb
      rcases hb with rfl | rfl | rfl | rfl | rfl | rfl | rfl | rfl | rfl | rfl | rfl | rfl | rfl <;> first | exact ⟨by decide, by decide⟩ | exact ⟨by omega, by omega⟩
    obtain ⟨hdl, hds⟩ := hok
    obtain ⟨d0, d1, d2, d3, d4, d5, d6, d7, d8, d9, d10, d11, d12, rfl⟩ : ∃ d0 d1 d2 d3 d4 d5 d6 d7 d8 d9 d10 d11 d12 : Int, ds = [d0, d1, d2, d3, d4, d5, d6, d7, d8, d9, d10, d11, d12] := by
      match ds, hdl with
      | [a0, a1, a2, a3, a4, a5, a6, a7, a8, a9, a10, a11, a12], _ => exact ⟨_, _, _, _, _, _, _, _, _, _, _, _, _, rfl⟩
    have b0 := hds 0 d0 10 rfl rfl
    have b1 := hds 1 d1 5 rfl rfl
    have b2 := hds 2 d2 3 rfl rfl
    have b3 := hds 3 d3 5 rfl rfl
    have b4 := hds 4 d4 3 rfl rfl
    have b5 := hds 5 d5 2 rfl rfl
    have b6 := hds 6 d6 256 rfl rfl
    have b7 := hds 7 d7 m rfl rfl
    have b8 := hds 8 d8 2049 rfl rfl
    have b9 := hds 9 d9 61 rfl rfl
    have b10 := hds 10 d10 61 rfl rfl
    have b11 := hds 11 d11 4 rfl rfl
    have b12 := hds 12 d12 (10 ^ 6) rfl rfl
    clear hds
    refine q_asgL (el_is (ys := [V.int (40 ^ 10), V.int (2 * 40 ^ 10), V.int (39 * 40 ^ 10)]) (el_lst (ea_cons (ev_op ev_c ev_c (rv_I ⟨by decide, by decide, by decide⟩)) (ea_cons (ev_op ev_c (ev_op ev_c ev_c (rv_I ⟨by decide, by decide, by decide⟩)) (rv_I (.inr ⟨by decide, by decide⟩))) (ea_cons (ev_op ev_c (ev_op ev_c ev_c (rv_I ⟨by decide, by decide, by decide⟩)) (rv_I (.inr ⟨by decide, by decide⟩))) ea_nil))) (Nat.le_of_ble_eq_true rfl)) rfl) fun wl H3 hw0 e3 hw => ?_
    have hd := e3 _ _ hd
    refine q_asg (ev_op ev_c (ev_op (ev_var rfl) ev_c (rv_ixL (sq_of hd) (v := .int d0) rfl)) rv_I0) fun H4 e4 => ?_
    have hd := e4 _ _ hd; have hw := e4 _ _ hw
    refine q_asg (ev_op ev_c (ev_op (ev_var rfl) ev_c (rv_ixL (sq_of hd) (v := .int d1) rfl)) rv_I0) fun H5 e5 => ?_
    have hd := e5 _ _ hd; have hw := e5 _ _ hw
    refine q_asg (ev_op ev_c (ev_op (ev_var rfl) ev_c (rv_ixL (sq_of hd) (v := .int d3) rfl)) rv_I0) fun H6 e6 => ?_
    have hd := e6 _ _ hd; have hw := e6 _ _ hw
    refine q_asg (v := .int MAIN) (ev_is (ev_op (ev_op (ev_op (ev_op ev_c (ev_op ev_c ev_c (rv_I ⟨by decide, by decide, by decide⟩)) (rv_I (.inr ⟨by decide, by decide⟩))) (ev_op ev_c (ev_op ev_c ev_c (rv_I ⟨by decide, by decide, by decide⟩)) (rv_I (.inr ⟨by decide, by decide⟩))) rv_I0) (ev_op ev_c (ev_op ev_c ev_c (rv_I ⟨by decide, by decide, by decide⟩)) (rv_I (.inr ⟨by decide, by decide⟩))) rv_I0) (ev_op ev_c (ev_op ev_c ev_c (rv_I ⟨by decide, by decide, by decide⟩)) (rv_I (.inr ⟨by decide, by decide⟩))) rv_I0) rfl) fun H7 e7 => ?_
    have hd := e7 _ _ hd; have hw := e7 _ _ hw
    have eW : Ex H H7 := (e1.trans e2).trans ((e3.trans e4).trans ((e5.trans e6).trans e7))
    have k0 : Ex H7 H7 := Ex.refl _
    refine q_when (et_test (ev_op (ev_var rfl) ev_c (rv_eq rfl))) (fun hb K1 k1 => ?_) (fun _ K1 k1 => ?_)
    · have hd := (k0.trans k1) _ _ hd; have hw := (k0.trans k1) _ _ hw
      exact s_retU (eu_tup (ea_cons ev_c (ea_cons (ev_var rfl) (ea_cons (ev_var rfl) (ea_cons (ev_op (ev_var rfl) (ev_op (ev_var rfl) ev_c (rv_ixL (sq_of hd) (v := .int d2) rfl)) (rv_ixL (sq_of hw) (wv_at b2))) (ea_cons (ev_op ev_c (ev_op (ev_var rfl) ev_c (rv_ixL (sq_of hd) (v := .int d5) rfl)) rv_I0) (ea_cons (ev_op (ev_var rfl) ev_c (rv_ixL (sq_of hd) (v := .int d6) rfl)) ea_nil)))))) (Nat.le_of_ble_eq_true rfl)) fun p H8 hp e8 h8 => q p H8 [1, MAIN, 1 + d1, wv d2, 1 + d5, d6] (fresh_back (eW.trans (k0.trans k1)) hp) ((eW.trans (k0.trans k1)).trans e8) h8 (.k1 (by omega) (wv_ok b2) (by omega) (by omega))
    replace k0 := k0.trans k1; skip
    refine q_when (et_test (ev_op (ev_var rfl) ev_c (rv_eq rfl))) (fun hb K1 k1 => ?_) (fun _ K1 k1 => ?_)
    · have hd := (k0.trans k1) _ _ hd; have hw := (k0.trans k1) _ _ hw
      exact s_retU (eu_tup (ea_cons ev_c (ea_cons (ev_var rfl) (ea_cons (ev_var rfl) (ea_cons (ev_var rfl) (ea_cons (ev_op (ev_var rfl) (ev_op (ev_var rfl) ev_c (rv_ixL (sq_of hd) (v := .int d2) rfl)) (rv_ixL (sq_of hw) (wv_at b2))) ea_nil))))) (Nat.le_of_ble_eq_true rfl)) fun p H8 hp e8 h8 => q p H8 [2, MAIN, 1 + d1, 1 + d3, wv d2] (fresh_back (eW.trans (k0.trans k1)) hp) ((eW.trans (k0.trans k1)).trans e8) h8 (.k2 (by omega) (by omega) (wv_ok b2))
    replace k0 := k0.trans k1; skip
    refine q_when (et_or (et_test (ev_op (ev_var rfl) ev_c (rv_eq rfl))) (fun _ => (et_test (ev_op (ev_var rfl) ev_c (rv_eq rfl))))) (fun hb K1 k1 => ?_) (fun _ K1 k1 => ?_)
    · have hd := (k0.trans k1) _ _ hd; have hw := (k0.trans k1) _ _ hw
      exact s_retU (eu_tup (ea_cons (ev_var rfl) (ea_cons (ev_var rfl) (ea_cons (ev_var rfl) (ea_cons (ev_op (ev_var rfl) (ev_op (ev_var rfl) ev_c (rv_ixL (sq_of hd) (v := .int d2) rfl)) (rv_ixL (sq_of hw) (wv_at b2))) ea_nil)))) (Nat.le_of_ble_eq_true rfl)) fun p H8 hp e8 h8 => q p H8 [1 + d0, MAIN, 1 + d1, wv d2] (fresh_back (eW.trans (k0.trans k1)) hp) ((eW.trans (k0.trans k1)).trans e8) h8 (.k34 (by simp at hb; omega) (by omega) (wv_ok b2))
    replace k0 := k0.trans k1; skip
    refine q_when (et_test (ev_op (ev_var rfl) ev_c (rv_eq rfl))) (fun hb K1 k1 => ?_) (fun _ K1 k1 => ?_)
    · have hd := (k0.trans k1) _ _ hd; have hw := (k0.trans k1) _ _ hw
      exact s_retU (eu_tup (ea_cons ev_c (ea_cons (ev_var rfl) (ea_cons (ev_var rfl) (ea_cons (ev_op (ev_var rfl) (ev_op (ev_var rfl) ev_c (rv_ixL (sq_of hd) (v := .int d2) rfl)) (rv_ixL (sq_of hw) (wv_at b2))) (ea_cons (ev_var rfl) (ea_cons (ev_op (ev_var rfl) (ev_op (ev_var rfl) ev_c (rv_ixL (sq_of hd) (v := .int d4) rfl)) (rv_ixL (sq_of hw) (wv_at b4))) ea_nil)))))) (Nat.le_of_ble_eq_true rfl)) fun p H8 hp e8 h8 => q p H8 [5, MAIN, 1 + d1, wv d2, 1 + d3, wv d4] (fresh_back (eW.trans (k0.trans k1)) hp) ((eW.trans (k0.trans k1)).trans e8) h8 (.k5 (by omega) (wv_ok b2) (by omega) (wv_ok b4))
    replace k0 := k0.trans k1; skip
    refine q_when (et_test (ev_op (ev_var rfl) ev_c (rv_eq rfl))) (fun hb K1 k1 => ?_) (fun _ K1 k1 => ?_)
    · have hd := (k0.trans k1) _ _ hd; have hw := (k0.trans k1) _ _ hw
      refine q_asg (ev_op ev_c (ev_op (ev_var rfl) ev_c (rv_ixL (sq_of hd) (v := .int d7) rfl)) rv_I0) fun K2 k2 => ?_
      have hd := k2 _ _ hd
      have b5' : d5 = 0 ∨ d5 = 1 := by omega
      refine q_asgL (el_is (ys := ((List.range (1 + d7).toNat).map fun i : Nat => d12 + (i : Int) * d5).map V.int) (el_lcR1 (n := 1 + d7) (fun _ => true) (fun i : Nat => .int (d12 + (i : Int) * d5)) (ea_cons (ev_var rfl) ea_nil) ⟨by omega, by omega⟩ (fun _ => rfl) (fun i H1 a1 hi => fun H2 _ Q q => q _ (Ex.refl _)) fun i H1 a1 hi _ => ?_) (by unfold given; rw [List.filter_eq_self.mpr fun _ _ => rfl, List.map_map]; rfl)) fun cl K3 hc0 k3 hc => ?_
      · exact (ev_op (ev_op (ev_var rfl) ev_c (rv_ixL (sq_of (a1 _ _ hd)) (v := .int d12) rfl)) (ev_op (ev_var rfl) (ev_op (ev_var rfl) ev_c (rv_ixL (sq_of (a1 _ _ hd)) (v := .int d5) rfl)) (rv_I (.inr ⟨by omega, by omega⟩))) rv_I0)
      have hd := k3 _ _ hd
      exact s_retU (ev_is' (eu_tupL (el_cat2 (el_lst (ea_cons ev_c (ea_cons (ev_var rfl) (ea_cons (ev_var rfl) (ea_cons (ev_min2 (ev_op (ev_op (ev_var rfl) ev_c (rv_ixL (sq_of hd) (v := .int d8) rfl)) (ev_op ev_c (ev_op ev_c (ev_op (ev_var rfl) ev_c (rv_ixL (sq_of hd) (v := .int d5) rfl)) (rv_I (.inl ⟨by decide, by decide⟩))) rv_I0) (rv_I ⟨by omega, by omega⟩)) (ev_op ev_c (ev_var rfl) rv_I0)) ea_nil)))) (Nat.le_of_ble_eq_true rfl)) (ev_var rfl) hc (by simp; omega))) rfl) fun p H8 hp e8 h8 => q p H8 ([6, MAIN, 1 + d1, _] ++ _) (fresh_back (eW.trans ((k0.trans k1).trans (k2.trans k3))) hp) ((eW.trans ((k0.trans k1).trans (k2.trans k3))).trans e8) (by rw [h8]; rfl) (.k6 (by omega) (by have := dv0 b8.1 (b := 1 + 15 * d5) (by omega); split <;> omega) ⟨by rw [List.length_map, List.length_range]; omega, by rw [List.length_map, List.length_range]; omega⟩ (by rw [List.length_map, List.length_range]; split <;> omega) fun c hc => by
        obtain ⟨i, _, rfl⟩ := List.mem_map.mp hc
        rcases b5' with rfl | rfl <;> omega)
    replace k0 := k0.trans k1; skip
    refine q_when (et_test (ev_op (ev_var rfl) ev_c (rv_eq rfl))) (fun hb K1 k1 => ?_) (fun _ K1 k1 => ?_)
    · have hd := (k0.trans k1) _ _ hd; have hw := (k0.trans k1) _ _ hw
      exact s_retU (eu_tup (ea_cons ev_c (ea_cons (ev_var rfl) (ea_cons (ev_var rfl) (ea_cons (ev_op (ev_op (ev_var rfl) ev_c (rv_ixL (sq_of hd) (v := .int d8) rfl)) (ev_op ev_c (ev_op ev_c (ev_op (ev_var rfl) ev_c (rv_ixL (sq_of hd) (v := .int d5) rfl)) (rv_I (.inl ⟨by decide, by decide⟩))) rv_I0) (rv_I ⟨by omega, by omega⟩)) ea_nil)))) (Nat.le_of_ble_eq_true rfl)) fun p H8 hp e8 h8 => q p H8 [7, MAIN, 1 + d1, d8 / (1 + 15 * d5)] (fresh_back (eW.trans (k0.trans k1)) hp) ((eW.trans (k0.trans k1)).trans e8) h8 (.k7 (by omega) (dv0 b8.1 (by omega)) (dv1 b8 (by omega)))
    replace k0 := k0.trans k1; skip
    refine q_when (et_test (ev_op (ev_var rfl) ev_c (rv_eq rfl))) (fun hb K1 k1 => ?_) (fun _ K1 k1 => ?_)
    · have hd := (k0.trans k1) _ _ hd; have hw := (k0.trans k1) _ _ hw
      exact s_retU (eu_tup (ea_cons ev_c (ea_cons (ev_var rfl) (ea_cons (ev_var rfl) (ea_cons (ev_op (ev_op (ev_var rfl) ev_c (rv_ixL (sq_of hd) (v := .int d9) rfl)) (ev_op ev_c (ev_op ev_c (ev_op (ev_var rfl) ev_c (rv_ixL (sq_of hd) (v := .int d5) rfl)) (rv_I (.inl ⟨by decide, by decide⟩))) rv_I0) (rv_I ⟨by omega, by omega⟩)) (ea_cons (ev_var rfl) (ea_cons (ev_op (ev_op (ev_var rfl) ev_c (rv_ixL (sq_of hd) (v := .int d10) rfl)) (ev_op ev_c (ev_op ev_c (ev_op (ev_var rfl) ev_c (rv_ixL (sq_of hd) (v := .int d5) rfl)) (rv_I (.inl ⟨by decide, by decide⟩))) rv_I0) (rv_I ⟨by omega, by omega⟩)) (ea_cons (ev_op ev_c (ev_op (ev_op (ev_var rfl) ev_c (rv_ixL (sq_of hd) (v := .int d11) rfl)) ev_c (rv_I (by show (0 : Int) < 4; decide))) rv_I0) ea_nil))))))) (Nat.le_of_ble_eq_true rfl)) fun p H8 hp e8 h8 => q p H8 [8, MAIN, 1 + d1, d9 / (1 + 9 * d5), 1 + d3, d10 / (1 + 9 * d5), 1 + d11 % 4] (fresh_back (eW.trans (k0.trans k1)) hp) ((eW.trans (k0.trans k1)).trans e8) h8 (.k8 (by omega) (dv0 b9.1 (by omega)) (dv1 b9 (by omega)) (by omega) (dv0 b10.1 (by omega)) (dv1 b10 (by omega)) (by omega))
    replace k0 := k0.trans k1; skip
    refine q_when (et_test (ev_op (ev_var rfl) ev_c (rv_eq rfl))) (fun hb K1 k1 => ?_) (fun _ K1 k1 => ?_)
    · have hd := (k0.trans k1) _ _ hd; have hw := (k0.trans k1) _ _ hw
      exact s_retU (eu_tup (ea_cons ev_c (ea_cons (ev_var rfl) (ea_cons (ev_var rfl) (ea_cons (ev_op (ev_var rfl) ev_c (rv_ixL (sq_of hd) (v := .int d6) rfl)) ea_nil)))) (Nat.le_of_ble_eq_true rfl)) fun p H8 hp e8 h8 => q p H8 [9, MAIN, 1 + d1, d6] (fresh_back (eW.trans (k0.trans k1)) hp) ((eW.trans (k0.trans k1)).trans e8) h8 (.k9 (by omega) (by omega))
    replace k0 := k0.trans k1; skip
    have hd := k0 _ _ hd
    exact s_retU (eu_tup (ea_cons ev_c (ea_cons (ev_var rfl) (ea_cons (ev_var rfl) ea_nil))) (Nat.le_of_ble_eq_true rfl)) fun p H8 hp e8 h8 => q p H8 [10, MAIN, 1 + d1] (fresh_back (eW.trans k0) hp) ((eW.trans k0).trans e8) h8 (.k10 (by omega))
end

end K68

set_option Elab.async false
set_option linter.all false
set_option maxRecDepth 100000
set_option maxHeartbeats 4000000
namespace K68
open PySem PySem.Spec PyProof.Rows L2 Evl LK LT LG LS LQ LX LO LN LP LH LV LZ LW StX
/-! ### data of lists of ints -/
theorem eqva_ints : ∀ (a b : List Int), PyData.eqvAll (a.map PyData.int) (b.map PyData.int) = decide (a = b)
  | [], [] => by simp [PyData.eqvAll]
  | [], _ :: _ => by simp [PyData.eqvAll]
  | _ :: _, [] => by simp [PyData.eqvAll]
  | x :: r, y :: t => by
    rw [List.map_cons, List.map_cons, PyData.eqvAll, eqva_ints r t]
    by_cases h : x = y <;> simp [PyData.eqv, List.cons.injEq, h]
theorem eqv_ints (a b : List Int) : PyData.eqv (.list (a.map PyData.int)) (.list (b.map PyData.int)) = decide (a = b) := by
  rw [PyData.eqv]
  exact eqva_ints a b
/-! ### records -/
def at0 (rows : List (List Int)) (i j : Nat) : Int := (rows.getD i []).getD j 0
def wholeB (rows : List (List Int)) (r g : Int) : Bool := (decide (1 ≤ at0 rows 0 2) && decide (at0 rows 0 2 ≤ (rows.length : Int))) && allF (at0 rows 0 2).toNat fun i => decide ((rows.getD i []).take 3 = [r, (i : Int), at0 rows 0 2]) && decide (at0 rows i 7 = g)
theorem LLs.at {H : Hp} {ks : List Addr} {rows : List (List Int)} (h : LLs H ks rows) {i : Nat} (hi : i < rows.length) : ∃ k, ks[i]? = some k ∧ H k = some (.lst ((rows.getD i []).map V.int)) := by
  have hk : i < ks.length := by rw [h.1]; exact hi
  refine ⟨ks[i], List.getElem?_eq_getElem hk, ?_⟩
  rw [List.getD_eq_getElem?_getD, List.getElem?_eq_getElem hi]
  exact h.2 i _ _ (List.getElem?_eq_getElem hk) (List.getElem?_eq_getElem hi)
theorem LLs.drop {H : Hp} {ks : List Addr} {rows : List (List Int)} (h : LLs H ks rows) (n : Nat) : LLs H (ks.drop n) (rows.drop n) := ⟨by rw [List.length_drop, List.length_drop, h.1], fun i k row a b => h.2 (n + i) k row (by rw [← List.getElem?_drop]; exact a) (by rw [← List.getElem?_drop]; exact b)⟩
theorem LLs.take {H : Hp} {ks : List Addr} {rows : List (List Int)} (h : LLs H ks rows) (n : Nat) : LLs H (ks.take n) (rows.take n) := by
  refine ⟨by rw [List.length_take, List.length_take, h.1], fun i k row a b => ?_⟩
  rw [List.getElem?_take] at a b
  by_cases hi : i < n
  · rw [if_pos hi] at a b
    exact h.2 i k row a b
  · rw [if_neg hi] at a
    cases a
theorem at_ref {ks : List Addr} {i : Nat} {k : Addr} (h : ks[i]? = some k) : atI (ks.map V.ref) (i : Int) = some (.ref k) := atI_nat (by rw [List.getElem?_map, h]; rfl)
theorem at_last {row : List Int} (h : row.length = 8) : atI (row.map V.int) (-1) = some (.int (row.getD 7 0)) := by
  match row, h with
  | [a, b, c, d, e, f, g, i], _ => rfl
theorem chunk_len {ys : List Int} {i : Nat} (h : (i : Int) < pI ys.length) : (((padI ys).drop (4 * i)).take 4).length = 4 := by
  have := pad_len ys
  rw [List.length_take, List.length_drop]
  omega
theorem row_chunk {ys : List Int} {r g : Int} {i : Nat} (h : (i : Int) < pI ys.length) : ((rowI ys r g i).drop 3).take 4 = ((padI ys).drop (4 * i)).take 4 := by
  show ((((padI ys).drop (4 * i)).take 4) ++ [g]).take 4 = _
  rw [List.take_append_of_le_length (by rw [chunk_len h]; exact Nat.le_refl _), List.take_of_length_le (by rw [chunk_len h]; exact Nat.le_refl _)]
theorem row_7 {ys : List Int} {r g : Int} {i : Nat} (h : (i : Int) < pI ys.length) : (rowI ys r g i).getD 7 0 = g := by
  show (r :: (i : Int) :: pI ys.length :: ((((padI ys).drop (4 * i)).take 4) ++ [g])).getD 7 0 = g
  have hl := chunk_len h
  generalize ((padI ys).drop (4 * i)).take 4 = c at hl
  match c, hl with
  | [_, _, _, _], _ => rfl
theorem rowsI_get {ys : List Int} {r g : Int} {i : Nat} (h : (i : Int) < pI ys.length) : (rowsI ys r g)[i]? = some (rowI ys r g i) := by
  unfold rowsI
  rw [List.getElem?_map, List.getElem?_range (by omega)]
  rfl
theorem app_get {ys : List Int} {r g : Int} {i : Nat} {t : List (List Int)} (h : (i : Int) < pI ys.length) : (rowsI ys r g ++ t).getD i [] = rowI ys r g i := by
  have hl := rows_len ys r g
  rw [List.getD_eq_getElem?_getD, List.getElem?_append_left (by omega), rowsI_get h]
  rfl
theorem whole_row (ys : List Int) (r g : Int) (t : List (List Int)) : wholeB (rowsI ys r g ++ t) r g = true := by
  have hp := pI_pos ys.length
  have hl := rows_len ys r g
  have h0 : at0 (rowsI ys r g ++ t) 0 2 = pI ys.length := by
    unfold at0
    rw [app_get (by omega)]
    rfl
  unfold wholeB
  rw [h0, decide_eq_true hp, decide_eq_true (by rw [List.length_append]; omega), Bool.true_and, Bool.true_and]
  refine allF_iff.mpr fun i hi => ?_
  have hi' : (i : Int) < pI ys.length := by omega
  rw [Bool.and_eq_true_iff, decide_eq_true_eq, decide_eq_true_eq]
  unfold at0
  rw [app_get hi']
  exact ⟨rfl, row_7 hi'⟩
def recsI : List (List Int) → Int → Int → List (List Int)
  | [], _, _ => []
  | ys :: t, r, g => rowsI ys r g ++ recsI t (r + 1) g
def lenR : List (List Int) → Nat
  | [] => 0
  | ys :: t => (pI ys.length).toNat + lenR t
theorem len_le : ∀ yss : List (List Int), yss.length ≤ lenR yss
  | [] => Nat.le_refl _
  | ys :: t => by
    have h := len_le t
    have := pI_pos ys.length
    show t.length + 1 ≤ (pI ys.length).toNat + lenR t
    omega
theorem rows_n (ys : List Int) (r g : Int) : (rowsI ys r g).length = (pI ys.length).toNat := by
  have := rows_len ys r g
  omega
theorem recs_len : ∀ (yss : List (List Int)) (r g : Int), (recsI yss r g).length = lenR yss
  | [], _, _ => rfl
  | ys :: t, r, g => by
    show (rowsI ys r g ++ recsI t (r + 1) g).length = (pI ys.length).toNat + lenR t
    rw [List.length_append, recs_len t, rows_n]
theorem recs_drop : ∀ (yss : List (List Int)) (n : Nat) (r g : Int) (t : List (List Int)), n ≤ yss.length → (recsI yss r g ++ t).drop (lenR (yss.take n)) = recsI (yss.drop n) (r + n) g ++ t
  | yss, 0, r, g, t, _ => by simp [lenR]
  | [], n + 1, r, g, t, h => by simp at h
  | ys :: s, n + 1, r, g, t, h => by
    show (rowsI ys r g ++ recsI s (r + 1) g ++ t).drop ((pI ys.length).toNat + lenR (s.take n)) = recsI (s.drop n) (r + ((n + 1 : Nat) : Int)) g ++ t
    rw [← rows_n ys r g, List.append_assoc, ← List.drop_drop, List.drop_left, recs_drop s n (r + 1) g t (by simpa using h)]
    rw [show r + 1 + (n : Int) = r + ((n + 1 : Nat) : Int) by push_cast; omega]
theorem lenR_succ : ∀ (yss : List (List Int)) (n : Nat) (ys : List Int), yss[n]? = some ys → lenR (yss.take (n + 1)) = lenR (yss.take n) + (pI ys.length).toNat
  | [], n, ys, h => by simp at h
  | y :: s, 0, ys, h => by
    simp at h
    subst h
    simp [lenR]
  | y :: s, n + 1, ys, h => by
    have ih := lenR_succ s n ys (by simpa using h)
    show (pI y.length).toNat + lenR (s.take (n + 1)) = (pI y.length).toNat + lenR (s.take n) + (pI ys.length).toNat
    omega
theorem recs_app : ∀ (a b : List (List Int)) (r g : Int), recsI (a ++ b) r g = recsI a r g ++ recsI b (r + a.length) g
  | [], b, r, g => by simp [recsI]
  | y :: a, b, r, g => by
    show rowsI y r g ++ recsI (a ++ b) (r + 1) g = (rowsI y r g ++ recsI a (r + 1) g) ++ recsI b (r + ((a.length + 1 : Nat) : Int)) g
    rw [recs_app a b, List.append_assoc, show r + 1 + (a.length : Int) = r + ((a.length + 1 : Nat) : Int) by push_cast; omega]
theorem pad_head (ys : List Int) : padI ys = (ys.length : Int) :: (ys ++ List.replicate (4 * pI ys.length - ((ys.length : Int) + 1)).toNat 0) := rfl
/-- tuples of ints -/
def TLs (H : Hp) (ts : List Addr) (yss : List (List Int)) : Prop := ts.length = yss.length ∧ ∀ (i : Nat) (t : Addr) (ys : List Int), ts[i]? = some t → yss[i]? = some ys → H t = some (.tup (ys.map V.int))
theorem TLs.ex {H H' : Hp} {ts : List Addr} {yss : List (List Int)} (h : TLs H ts yss) (e : Ex H H') : TLs H' ts yss := ⟨h.1, fun i t ys a b => e _ _ (h.2 i t ys a b)⟩
theorem TLs.mut {H H1 : Hp} {ts : List Addr} {yss : List (List Int)} {l : Addr} {xs : List V} {o : HO} (h : TLs H ts yss) (e : Ex H H1) (hl : H l = some (.lst xs)) : TLs (upd H1 l o) ts yss := ⟨h.1, fun i t ys a b => by
  have ht := h.2 i t ys a b
  rw [upd_ne (fun c => by rw [c, hl] at ht; cases ht)]
  exact e _ _ ht⟩
theorem TLs.snoc {H : Hp} {ts : List Addr} {yss : List (List Int)} {t : Addr} {ys : List Int} (h : TLs H ts yss) (ht : H t = some (.tup (ys.map V.int))) : TLs H (ts ++ [t]) (yss ++ [ys]) := by
  refine ⟨by rw [List.length_append, List.length_append, h.1]; rfl, fun i t' ys' a b => ?_⟩
  by_cases hi : i < ts.length
  · rw [List.getElem?_append_left hi] at a
    rw [List.getElem?_append_left (by rw [← h.1]; exact hi)] at b
    exact h.2 i t' ys' a b
  · rw [List.getElem?_append_right (by omega)] at a
    rw [List.getElem?_append_right (by rw [← h.1]; omega), ← h.1] at b
    cases hx : i - ts.length with
    | zero =>
      rw [hx] at a b
      cases a
      cases b
      exact ht
    | succ j =>
      rw [hx] at a
      cases a
def spIwh : Sp := fun vs H Q _ => ∃ (a : Addr) (ks : List Addr) (rows : List (List Int)) (r g : Int), vs = [.ref a, .int r, .int g] ∧ H a = some (.lst (ks.map V.ref)) ∧ LLs H ks rows ∧ (∀ row ∈ rows, row.length = 8) ∧ 1 ≤ rows.length ∧ rows.length ≤ 1000 ∧ RetV (.bl (wholeB rows r g)) H Q
def spRr (Pi Pc : Addr) : Sp := fun vs H Q _ => ∃ (a : Addr) (ks : List Addr) (ys : List Int) (r g : Int), vs = [.ref a] ∧ H a = some (.lst (ks.map V.ref)) ∧ LLs H ks (rowsI ys r g) ∧ chkB ys = true ∧ ys.length ≤ 90 ∧ Tab H Pi ∧ Tab H Pc ∧ ∀ p H', H p = none → Ex H H' → H' p = some (.tup (ys.map V.int)) → Q (.ref p) H'
def spWre (Pi Pc : Addr) : Sp := fun vs H Q _ => ∃ (a : Addr) (ks : List Addr) (rows : List (List Int)) (g : Int) (yss tail : List (List Int)), vs = [.ref a, .int g] ∧ H a = some (.lst (ks.map V.ref)) ∧ LLs H ks rows ∧ (∀ row ∈ rows, row.length = 8) ∧ rows.length ≤ 1000 ∧ rows = recsI yss 1 g ++ tail ∧ (∀ ys ∈ yss, chkB ys = true ∧ ys.length ≤ 90) ∧ (tail ≠ [] → wholeB tail ((yss.length : Int) + 1) g = false) ∧ Tab H Pi ∧ Tab H Pc ∧
  ∀ L ts H', H L = none → Ex H H' → H' L = some (.lst (ts.map V.ref)) → TLs H' ts yss → Q (.ref L) H'
section
variable {K : PySem.W.Frag} {σ : L2.St} {H : Hp} {ta te tl : TE} {tr : TA} {D : Ends} {sp : Sp} {E : XK} {z : V} {vs : List V} {a b : Addr} {ns ms : List Int}
theorem s_ext {l : Addr} {xs ys : List V} (hl : H l = some (.lst xs)) (ha : Ev ta σ H (.ref l)) (h : EvL te σ H ys) (hz : xs.length + ys.length ≤ 100000) (k : ∀ H1, Ex H H1 → D.nx σ (upd H1 l (.lst (xs ++ ys)))) :
    tDrop (tBM K "list" rExtend ta (tCons te tNil)) D σ H := ha H (Ex.refl H) _ fun H1 e1 =>
  ⟨Or.inl ⟨rfl, xs, sq_of (e1 l _ hl)⟩, h H1 e1 _ fun p H2 hp e2 h2 => ⟨l, p, xs, ys, rfl, rfl, e2 l _ (e1 l _ hl), h2, sz_of hz, k H2 (e1.trans e2)⟩⟩
theorem rv_neW (ha : H a = some (.lst (ns.map V.int))) (hb : H b = some (.lst (ms.map V.int))) : RV (rNeD K) (.ref a) (.ref b) H (.bl (!decide (ns = ms))) := by
  have h := rv_neDD (K := K) (.lst (sq_of ha) (dp_ints ns)) (.lst (sq_of hb) (dp_ints ms)) (sh_lst (sh_ints ns)) (sh_lst (sh_ints ms)) (by decide)
  rwa [eqv_ints] at h
/-- a call whose first argument is a new list -/
theorem ev_callN {xs : List V} (hl : EvL tl σ H xs) (ht : ∀ H1, Ex H H1 → EvA tr σ H1 vs) (hs : ∀ p H1, H1 p = some (.lst xs) → Ex H H1 → SpV sp (.ref p :: vs) H1 z) : Ev (tCall sp [] E (tCons tl tr)) σ H z := fun H1 e Q q =>
  hl H1 e _ fun p H2 _ e2 h2 => ht H2 (e.trans e2) H2 (Ex.refl _) _ fun H3 e3 => by
    show sp ((.ref p :: vs) ++ []) H3 Q E
    rw [List.append_nil]
    exact hs p H3 (e3 _ _ h2) ((e.trans e2).trans e3) H3 (Ex.refl _) Q (fun H4 e4 => q H4 ((e2.trans e3).trans e4)) E
theorem eu_callN {xs ys : List V} (hl : EvL tl σ H xs) (hs : ∀ p H1, H1 p = some (.lst xs) → Ex H H1 → ∀ Q : VK, (∀ u H2, H1 u = none → Ex H1 H2 → H2 u = some (.tup ys) → Q (.ref u) H2) → sp [.ref p] H1 Q E) : EvU (tCall sp [] E (tCons tl tNil)) σ H ys := fun H1 e Q q =>
  hl H1 e _ fun p H2 _ e2 h2 => hs p H2 h2 (e.trans e2) Q fun u H3 hu e3 h3 => q u H3 (fresh_back e2 hu) (e2.trans e3) h3
end
section
variable {P : Program} {w : World} {K : PySem.W.Frag} {mg : Str → Option Value} {base : Heap} {tA : Tok} {aW : Addr} {Pi Pc CB CI : Addr}
theorem ok_iwh {f : Addr} {fd : FuncData} (F : Fun K "is_whole" "is_whole" sIwh f fd) (T : Txt mg K tA aW) : FnOk P w K mg base CX0 1 f fd ["sectors", "record", "generation"] spIwh := by
  refine F.ok scIwh (fun vs H Q E h => ?_) (fun cdv A outer s H vs Q E hr h => ?_)
  · obtain ⟨a, ks, rows, r, g, rfl, _⟩ := h
    rfl
  · obtain ⟨a, ks, rows, r, g, rfl, ha, hL, h8, hn0, hn1, q⟩ := h
    refine ⟨_, (pss_cons (ps_set (i := 3) scIwh.nd rfl (Or.inl rfl) (pe_ix ix_list (pe_ix ix_list (pv 0) pe_int (fun _ _ => rfl)) pe_int (fun _ _ => rfl)))
      (pss_cons (ps_if (pt_not (pt_chain op_le op_le pe_int (pv 3) (pe_callB call_len_seq (by rfl) T.len (by decide +kernel) (pa_cons (pv 0) pa_nil)))) (pss_one (ps_ret pe_bl)) pss_nil)
      (pss_cons (ps_for PassesOwn.never rfl (pi_range1 (by rfl) T.range (pa_cons (pv 3) pa_nil)) (pg_name (i := 4) scIwh.nd rfl (Or.inl rfl)) (pss_cons (ps_set (i := 5) scIwh.nd rfl (Or.inl rfl) (pe_ix ix_list (pv 0) (pv 4) (fun _ _ => rfl)))
      (pss_one (ps_if (PW.pt (pw_or (pt_cmpR (op_neD hr.units) (pe_slice sl_list (pv 5) po_none (po_some pe_int)) (pe_lst (pa_cons (pv 1) (pa_cons (pv 4) (pa_cons (pv 3) pa_nil)))) (nomark _)) (pw_or1 (pt_cmpR op_ne (pe_ix ix_list (pv 5) (pe_un un_neg pe_int) (fun _ _ => rfl)) (pv 2) (nomark _))))) (pss_one (ps_ret pe_bl)) pss_nil))))
      (pss_one (ps_ret pe_bl))))), ?_⟩
    obtain ⟨k0, g0, hk0⟩ := hL.at (i := 0) (by omega)
    have l8 : ∀ {i : Nat}, i < rows.length → (rows.getD i []).length = 8 := fun {i} hi => by
      rw [List.getD_eq_getElem?_getD, List.getElem?_eq_getElem hi]
      exact h8 _ (List.getElem_mem hi)
    have hks := hL.1
    refine q_asg (v := .int (at0 rows 0 2)) (ev_op (ev_op (ev_var rfl) ev_c (rv_ixL (sq_of ha) (at_ref g0))) ev_c (rv_ixL (sq_of hk0) (at_get (j := 2) (by rw [l8 (by omega)]; decide)))) fun H1 e1 => ?_
    have hw : wholeB rows r g = ((decide (1 ≤ at0 rows 0 2) && decide (at0 rows 0 2 ≤ (rows.length : Int))) && allF (at0 rows 0 2).toNat fun i => decide ((rows.getD i []).take 3 = [r, (i : Int), at0 rows 0 2]) && decide (at0 rows i 7 = g)) := rfl
    rw [hw] at q
    generalize at0 rows 0 2 = p at q ⊢
    refine q_when (b := !(decide (1 ≤ p) && decide (p ≤ (rows.length : Int)))) (et_not (et_chain ev_c (ev_var rfl) (ev_is (ev_lenL (ev_var rfl) (e1 _ _ ha)) (w := .int (rows.length : Int)) (by rw [List.length_map, hks])))) (fun hb H2 e2 => ?_) (fun hb H2 e2 => ?_)
    · rw [show (decide (1 ≤ p) && decide (p ≤ (rows.length : Int))) = false from (by
        cases hx : (decide (1 ≤ p) && decide (p ≤ (rows.length : Int))) with
        | false => rfl
        | true =>
          rw [hx] at hb
          cases hb), Bool.false_and] at q
      exact s_ret ev_c fun H3 e3 => q H3 ((e1.trans e2).trans e3)
    have hb' : (decide (1 ≤ p) && decide (p ≤ (rows.length : Int))) = true := by simpa using hb
    have hp1 : 1 ≤ p := of_decide_eq_true (Bool.and_eq_true_iff.mp hb').1
    have hp2 : p ≤ (rows.length : Int) := of_decide_eq_true (Bool.and_eq_true_iff.mp hb').2
    rw [hb', Bool.true_and] at q
    refine q_forR1 (n := p) (ea_cons (ev_var rfl) ea_nil) ⟨by omega, by omega⟩ (fun i σ' H' => ∃ y4 y5, σ' = [some (.ref a), some (.int r), some (.int g), some (.int p), y4, y5] ∧ Ex H H' ∧ ∀ j, j < i → (decide ((rows.getD j []).take 3 = [r, (j : Int), p]) && decide (at0 rows j 7 = g)) = true) (fun H3 e3 => ⟨_, _, rfl, (e1.trans e2).trans e3, fun j hj => absurd hj (by omega)⟩) ?_ ?_
    · rintro i σ' H' hi ⟨y4, y5, rfl, e0, hall⟩
      have hir : i < rows.length := by omega
      obtain ⟨k, gk, hk⟩ := hL.at hir
      refine q_asg (ev_op (ev_var rfl) (ev_var rfl) (rv_ixL (sq_of (e0 _ _ ha)) (at_ref gk))) fun H3 e3 => ?_
      have hk3 := (e0.trans e3) _ _ hk
      refine s_when (b := !(decide ((rows.getD i []).take 3 = [r, (i : Int), p]) && decide (at0 rows i 7 = g))) (et_is (et_or (et_test (ev_opLL (el_is (ys := ((rows.getD i []).take 3).map V.int) (el_sl (ev_var rfl) eo_none (eo_some ev_c) (sq_of hk3)) (by rw [List.map_take]; exact cut_lo _ 3)) (el_is (ys := [r, (i : Int), p].map V.int) (el_lst (ea_cons (ev_var rfl) (ea_cons (ev_var rfl) (ea_cons (ev_var rfl) ea_nil))) (by simp)) rfl) (fun _ _ _ h1 h2 _ => rv_neW h1 h2))) (fun _ => et_test (ev_op (ev_op (ev_var rfl) (ev_un ev_c ru_neg) (rv_ixL (sq_of hk3) (at_last (l8 hir)))) (ev_var rfl) (rv_ne rfl)))) ?_) (fun hb H4 e4 => ?_) (fun hb H4 e4 => ⟨_, _, rfl, (e0.trans e3).trans e4, fun j hj => ?_⟩)
      · rw [Bool.not_and]
        congr 1
        rw [Bool.eq_iff_iff]
        simp [at0]
      · rw [show allF p.toNat _ = false from by
          cases ha : allF p.toNat (fun i => decide ((rows.getD i []).take 3 = [r, (i : Int), p]) && decide (at0 rows i 7 = g)) with
          | false => rfl
          | true =>
            rw [allF_iff.mp ha i (by omega)] at hb
            cases hb] at q
        exact s_ret ev_c fun H5 e5 => q H5 (((e0.trans e3).trans e4).trans e5)
      · by_cases hj2 : j < i
        · exact hall j hj2
        · obtain rfl : j = i := by omega
          simpa using hb
    · rintro σ' H' ⟨y4, y5, rfl, e0, hall⟩
      rw [allF_iff.mpr hall] at q
      exact s_ret ev_c fun H3 e3 => q H3 (e0.trans e3)
theorem ok_rr {f fP fC : Addr} {fd fdP fdC : FuncData} (F : Fun K "read_record_words" "read_record_words" sRr f fd) (FPf : Fun K "parts_for" "parts_for" sPf fP fdP) (bPf : Binds K fdP ["many"] []) (gPf : mg "parts_for" = some (.ref fP)) (GPf : FnOk P w K mg base CX0 1 fP fdP ["many"] spPf)
    (FCk : Fun K "check_intent" "check_intent" sChk fC fdC) (GCk : FnOk P w K mg base CX0 8 fC fdC ["words"] (spChk K Pi Pc)) (bCk : Binds K fdC ["words"] []) (gCk : mg "check_intent" = some (.ref fC)) (T : Txt mg K tA aW) (XI : Xc K mg "BadImage" CI) : FnOk P w K mg base (L2.CX P w) 9 f fd ["sectors"] (spRr Pi Pc) := by
  obtain ⟨_, gGROUP_WORDS⟩ := T.gGROUP_WORDS
  refine F.okX scRr (fun vs H Q E h => ?_) (fun cdv A outer s H vs Q E hr h => ?_)
  · obtain ⟨a, ks, ys, r, g, rfl, _⟩ := h
    rfl
  · obtain ⟨a, ks, ys, r, g, rfl, ha, hL, hc, hlen, hPi, hPc, q⟩ := h
    refine ⟨_, (pss_cons (ps_set (i := 1) scRr.nd rfl (Or.inl rfl) (pe_lst pa_nil))
      (pss_cons (ps_for (passes_of rfl) rfl (pi_list (pv 0)) (pg_name (i := 2) scRr.nd rfl (Or.inl rfl)) (pss_one (ps_expr (pe_bm PySem.F.plainAttrs_list PySem.F.slot_list_extend PySem.F.type_list_extend mt_extend (pv 1) (pa_cons (pe_slice sl_list (pv 2) (po_some pe_int) (po_some (pe_op op_add pe_int (pe_glob (v := .int 4) rfl gGROUP_WORDS ⟨_, rfl⟩)))) pa_nil)))))
      (pss_cons (ps_set (i := 3) scRr.nd rfl (Or.inl rfl) (pe_op op_add pe_int (pe_ix ix_list (pv 1) pe_int (fun _ _ => rfl))))
      (pss_cons (ps_set (i := 4) scRr.nd rfl (Or.inl rfl) (pe_callTy call_tuple_of (by rfl) T.tuple (by decide +kernel) (pa_cons (pe_slice sl_list (pv 1) (po_some pe_int) (po_some (pv 3))) pa_nil)))
      (pss_cons (ps_if (PW.pt (pw_or (pt_cmpR op_ne (pe_call GPf (hr.mono (by decide)) (by rfl) gPf FPf.kp bPf .nil pass0 (pa_cons (pe_ix ix_list (pv 1) pe_int (fun _ _ => rfl)) pa_nil)) (pe_callB call_len_seq (by rfl) T.len (by decide +kernel) (pa_cons (pv 0) pa_nil)) (nomark _)) (pw_or (pt_val (pe_callB (cr_anyN rfl) (by rfl) T.any (by decide +kernel) (pa_cons (pe_slice sl_list (pv 1) (po_some (pv 3)) po_none) pa_nil))) (pw_or1 (pt_not (pt_val (pe_call GCk (hr.mono (by decide)) (by rfl) gCk FCk.kp bCk .nil pass0 (pa_cons (pv 4) pa_nil)))))))) (pss_one (ps_raise0 rfl XI (takes_of rfl rfl rfl rfl) (by rfl))) pss_nil)
      (pss_one (ps_ret (pv 4)))))))), ?_⟩
    have hp := pad_len ys
    have hp1 := pI_pos ys.length
    have hp2 := pI_le hlen
    have hks : (ks.length : Int) = pI ys.length := by rw [hL.1]; exact rows_len ys r g
    refine q_asgL (el_lst ea_nil (by decide)) fun wl H1 hw e1 h1 => ?_
    refine q_forLn (ev_var rfl) (sq_of (e1 _ _ ha)) (fun i σ' H' => ∃ y2 y3 y4, σ' = [some (.ref a), some (.ref wl), y2, y3, y4] ∧ Ex H H' ∧ H' wl = some (.lst (((padI ys).take (4 * i)).map V.int))) (fun H2 e2 => ⟨_, _, _, rfl, e1.trans e2, e2 _ _ h1⟩) (fun i σ' H' _ h => ?_) (fun i x σ' H' hx h => ?_) (fun σ' H' h => ?_)
    · obtain ⟨y2, y3, y4, rfl, e0, hwl⟩ := h
      exact sq_of (e0 _ _ ha)
    · obtain ⟨y2, y3, y4, rfl, e0, hwl⟩ := h
      rw [List.getElem?_map] at hx
      obtain ⟨k, hk, rfl⟩ := Option.map_eq_some_iff.mp hx
      have hi : (i : Int) < pI ys.length := by
        have := (List.getElem?_eq_some_iff.mp hk).1
        omega
      have hrow := hL.2 i k _ hk (rowsI_get hi)
      refine s_ext hwl (ev_var rfl) (el_is (ys := (((padI ys).drop (4 * i)).take 4).map V.int) (el_sl (ev_var rfl) (eo_some ev_c) (eo_some (ev_op ev_c ev_c rv_I0)) (sq_of (e0 _ _ hrow))) ?_) (by rw [List.length_map, List.length_map, List.length_take, List.length_take, List.length_drop]; omega) fun H2 e2 => ⟨_, _, _, rfl, (e0.trans e2).mut hw, ?_⟩
      · have := cut_mid ((rowI ys r g i).map V.int) (i := 3) (j := 7) (by decide) (by rw [List.length_map, row_len hi]; decide)
        rw [show (cutV ((rowI ys r g i).map V.int) (some 3) (some (3 + 4))) = _ from this, ← List.map_drop, ← List.map_take, show 7 - 3 = 4 from rfl, row_chunk hi]
      · rw [upd_same, ← List.map_append, ← List.take_add, show 4 * i + 4 = 4 * (i + 1) by omega]
    · obtain ⟨y2, y3, y4, rfl, e0, hwl⟩ := h
      rw [List.length_map, List.take_of_length_le (by omega)] at hwl
      have hh : (padI ys).getD 0 0 = (ys.length : Int) := rfl
      refine q_asg (v := .int ((1 + ys.length : Nat) : Int)) (ev_is (ev_op ev_c (ev_op (ev_var rfl) ev_c (rv_ixL (sq_of hwl) (at_get (j := 0) (by omega)))) rv_I0) (by rw [hh]; push_cast; rfl)) fun H2 e2 => ?_
      have hwl2 := e2 _ _ hwl
      refine q_asgU (eu_tupL (el_is (ys := ys.map V.int) (el_sl (ev_var rfl) (eo_some ev_c) (eo_some (ev_var rfl)) (sq_of hwl2)) ?_)) fun u H3 hu e3 h3 => ?_
      · have := cut_mid ((padI ys).map V.int) (i := 1) (j := 1 + ys.length) (by omega) (by rw [List.length_map]; unfold pI at hp; omega)
        rw [show (cutV ((padI ys).map V.int) (some 1) (some ((1 + ys.length : Nat) : Int))) = _ from this, ← List.map_drop, ← List.map_take, show 1 + ys.length - 1 = ys.length by omega, pad_head, List.drop_succ_cons, List.drop_zero, List.take_left]
      have hwl3 := e3 _ _ hwl2
      have e03 := (e0.trans e2).trans e3
      refine q_when (b := false) (et_is (et_or (et_test (ev_op (ev_call (vs := [.int (ys.length : Int)]) (ea_cons (ev_is (ev_op (ev_var rfl) ev_c (rv_ixL (sq_of hwl3) (at_get (j := 0) (by omega)))) (by rw [hh])) ea_nil) (sv_pf rfl)) (ev_is (ev_lenL (ev_var rfl) (e03 _ _ ha)) (w := .int (pI ys.length)) (by rw [List.length_map, hks])) (rv_ne rfl))) (fun _ => et_or (et_B (ev_anyN (ns := List.replicate (4 * pI ys.length - ((ys.length : Int) + 1)).toNat 0) (el_is (el_sl (ev_var rfl) (eo_some (ev_var rfl)) eo_none (sq_of hwl3)) ?_))) (fun _ => et_not (et_B (ev_call (vs := [.ref u]) (z := .bl (chkB ys)) (ea_cons (ev_var rfl) ea_nil) (fun B eB Q' q' E' => ⟨u, ys, rfl, st_of (eB _ _ h3), by omega, hPi.mono (e03.trans eB), hPc.mono (e03.trans eB), q'⟩)))))) (by rw [hc, anyN_zero]; simp)) (fun h => by cases h) (fun _ H4 e4 => ?_)
      · rw [cut_hi, ← List.map_drop, pad_head, Nat.add_comm, List.drop_succ_cons, List.drop_left]
      exact s_ret (ev_var rfl) fun H5 e5 => q u H5 (fresh_back (e0.trans e2) hu) ((e03.trans e4).trans e5) ((e4.trans e5) _ _ h3)
theorem ok_wre {f fI fR : Addr} {fd fdI fdR : FuncData} (F : Fun K "whole_records" "whole_records" sWre f fd) (FIw : Fun K "is_whole" "is_whole" sIwh fI fdI) (GIw : FnOk P w K mg base CX0 1 fI fdI ["sectors", "record", "generation"] spIwh) (bIw : Binds K fdI ["sectors", "record", "generation"] []) (gIw : mg "is_whole" = some (.ref fI))
    (FRr : Fun K "read_record_words" "read_record_words" sRr fR fdR) (GRr : FnOk P w K mg base (L2.CX P w) 9 fR fdR ["sectors"] (spRr Pi Pc)) (bRr : Binds K fdR ["sectors"] []) (gRr : mg "read_record_words" = some (.ref fR)) (T : Txt mg K tA aW) : FnOk P w K mg base CX0 10 f fd ["sectors", "generation"] (spWre Pi Pc) := by
  refine F.ok scWre (fun vs H Q E h => ?_) (fun cdv A outer s H vs Q E hr h => ?_)
  · obtain ⟨a, ks, rows, g, yss, tail, rfl, _⟩ := h
    rfl
  · obtain ⟨a, ks, rows, g, yss, tail, rfl, ha, hL, h8, hn1, hrows, hys, htail, hPi, hPc, q⟩ := h
    refine ⟨_, (pss_cons (ps_set (i := 2) scWre.nd rfl (Or.inl rfl) (pe_lst pa_nil))
      (pss_cons (ps_set (i := 3) scWre.nd rfl (Or.inl rfl) pe_int)
      (pss_cons (ps_while PassesOwn.never (PW.pt (pw_and (pt_cmpR op_lt (pv 3) (pe_callB call_len_seq (by rfl) T.len (by decide +kernel) (pa_cons (pv 0) pa_nil)) (nomark _)) (pw_and1 (pt_val (pe_call GIw (hr.mono (by decide)) (by rfl) gIw FIw.kp bIw .nil pass0 (pa_cons (pe_slice sl_list (pv 0) (po_some (pv 3)) po_none) (pa_cons (pe_op op_add (pe_callB call_len_seq (by rfl) T.len (by decide +kernel) (pa_cons (pv 2) pa_nil)) pe_int) (pa_cons (pv 1) pa_nil)))))))) (pss_cons (ps_set (i := 4) scWre.nd rfl (Or.inl rfl) (pe_op op_add (pv 3) (pe_ix ix_list (pe_ix ix_list (pv 0) (pv 3) (fun _ _ => rfl)) pe_int (fun _ _ => rfl))))
      (pss_cons (ps_expr (pe_bm PySem.F.plainAttrs_list PySem.F.slot_list_append PySem.F.type_list_append mt_append (pv 2) (pa_cons (pe_call GRr (hr.mono (by decide)) (by rfl) gRr FRr.kp bRr .nil passL (pa_cons (pe_slice sl_list (pv 0) (po_some (pv 3)) (po_some (pv 4))) pa_nil)) pa_nil)))
      (pss_one (ps_set (i := 3) scWre.nd rfl (Or.inl rfl) (pv 4))))))
      (pss_one (ps_ret (pv 2)))))), ?_⟩
    have hks := hL.1
    have hall : rows.length = lenR yss + tail.length := by rw [hrows, List.length_append, recs_len]
    have lenT : ∀ n, lenR (yss.take n) ≤ lenR yss := fun n => by
      have := recs_app (yss.take n) (yss.drop n) 1 g
      rw [List.take_append_drop] at this
      have h2 := congrArg List.length this
      rw [List.length_append, recs_len, recs_len, recs_len] at h2
      omega
    refine q_asgL (el_lst ea_nil (by decide)) fun il H1 hi0 e1 h1 => ?_
    refine q_asg ev_c fun H2 e2 => ?_
    refine q_while (fun m σ' H' => ∃ (n : Nat) (y4 : Option V) (ts : List Addr), σ' = [some (.ref a), some (.int g), some (.ref il), some (.int (lenR (yss.take n) : Int)), y4] ∧ Ex H H' ∧ H' il = some (.lst (ts.map V.ref)) ∧ TLs H' ts (yss.take n) ∧ n ≤ yss.length ∧ m = yss.length - n) yss.length ⟨0, none, [], by rw [List.take_zero]; rfl, e1.trans e2, e2 _ _ h1, ⟨by rw [List.take_zero]; rfl, fun i t ys h => by cases h⟩, Nat.zero_le _, rfl⟩ fun m σ' H' h => ?_
    obtain ⟨n, y4, ts, rfl, e0, hil, hts, hn, rfl⟩ := h
    have hat := lenT n
    have hdr : rows.drop (lenR (yss.take n)) = recsI (yss.drop n) (1 + n) g ++ tail := by rw [hrows]; exact recs_drop yss n 1 g tail hn
    have htl : ts.length = n := by rw [hts.1, List.length_take]; omega
    generalize hA : lenR (yss.take n) = A at *
    have ln : Ev (tCB (rLenS K) (tCons (tVar 0) tNil)) [some (.ref a), some (.int g), some (.ref il), some (.int (A : Int)), y4] H' (.int (rows.length : Int)) := ev_is (ev_lenL (ev_var rfl) (e0 _ _ ha)) (by rw [List.length_map, hks])
    have whl : A < rows.length → Ev (tCall spIwh [] E0 (tCons (tSl (rSlL K) (tVar 0) (tPart (tVar 3)) tNoPart) (tCons (tOp (rI0 fun i j => V.int (i + j)) (tCB (rLenS K) (tCons (tVar 2) tNil)) (tC (.int 1))) (tCons (tVar 1) tNil)))) [some (.ref a), some (.int g), some (.ref il), some (.int (A : Int)), y4] H' (.bl (wholeB (rows.drop A) ((n : Int) + 1) g)) := fun hlt => ev_callN (xs := (ks.drop A).map V.ref) (vs := [.int ((n : Int) + 1), .int g]) (el_is (el_sl (ev_var rfl) (eo_some (ev_var rfl)) eo_none (sq_of (e0 _ _ ha))) (by rw [cut_hi, List.map_drop])) (fun B eB => ea_cons (ev_op (ev_is (ev_lenL (ev_var rfl) (eB _ _ hil)) (w := .int (n : Int)) (by rw [List.length_map, htl])) ev_c rv_I0) (ea_cons (ev_var rfl) ea_nil)) (fun p B hp eB B' eB' Q' q' E' => ⟨p, ks.drop A, rows.drop A, (n : Int) + 1, g, rfl, eB' _ _ hp, (hL.drop A).ex (e0.trans (eB.trans eB')), fun row hr => h8 row (List.mem_of_mem_drop hr), by rw [List.length_drop]; omega, by rw [List.length_drop]; omega, q'⟩)
    by_cases hlast : n = yss.length
    · refine ⟨false, ?_, (fun h => by cases h), fun _ B eB => ?_⟩
      · have hd0 : rows.drop A = tail := by rw [hdr, hlast, List.drop_length]; rfl
        have hAe : A = lenR yss := by rw [← hA, hlast, List.take_length]
        by_cases ht : tail = []
        · refine et_is (et_and (a := false) (b := false) (et_is (et_test (ev_op (ev_var rfl) ln rv_I0)) (decide_eq_false (by rw [hall, ht, hAe]; simp))) (fun h => by cases h)) rfl
        · have hlt : A < rows.length := by
            have := List.length_pos_iff.mpr ht
            omega
          refine et_is (et_and (et_test (ev_op (ev_var rfl) ln rv_I0)) (fun _ => et_B (whl hlt))) ?_
          rw [hd0, hlast, htail ht, Bool.and_false]
      · have hty : yss.take n = yss := by rw [hlast, List.take_length]
        rw [hty] at hts
        exact s_ret (ev_var rfl) fun B2 e2' => q il ts B2 hi0 ((e0.trans eB).trans e2') ((eB.trans e2') _ _ hil) (hts.ex (eB.trans e2'))
    · have hlt : n < yss.length := by omega
      have hy : yss[n]? = some yss[n] := List.getElem?_eq_getElem hlt
      generalize yss[n] = ys at hy
      have hyp := hys ys (List.mem_of_getElem? hy)
      have hd1 : rows.drop A = rowsI ys (1 + n) g ++ (recsI (yss.drop (n + 1)) (1 + n + 1) g ++ tail) := by
        have hx : yss.drop n = ys :: yss.drop (n + 1) := by
          rw [List.drop_eq_getElem_cons hlt]
          congr 1
          rw [List.getElem?_eq_getElem hlt] at hy
          exact Option.some.inj hy
        rw [hdr, hx]
        show (rowsI ys (1 + n) g ++ _) ++ tail = _
        rw [List.append_assoc]
      have hpp := pI_pos ys.length
      have hrl := rows_n ys (1 + n) g
      have hAl : A + (pI ys.length).toNat ≤ rows.length := by
        have := congrArg List.length hd1
        rw [List.length_drop, List.length_append, hrl] at this
        omega
      have hA2 : lenR (yss.take (n + 1)) = A + (pI ys.length).toNat := by rw [lenR_succ yss n ys hy, hA]
      refine ⟨true, et_is (et_and (et_test (ev_op (ev_var rfl) ln rv_I0)) (fun _ => et_B (whl (by omega)))) (by rw [hd1, show (n : Int) + 1 = 1 + n by omega, whole_row, decide_eq_true (by omega)]; rfl), fun _ B eB => ⟨fun σ2 H2 => ∃ (y4 : Option V) (ts : List Addr), σ2 = [some (.ref a), some (.int g), some (.ref il), some (.int (lenR (yss.take (n + 1)) : Int)), y4] ∧ Ex H H2 ∧ H2 il = some (.lst (ts.map V.ref)) ∧ TLs H2 ts (yss.take (n + 1)), fun σ2 H2 ⟨y, ts2, a1, a2, a3, a4⟩ => ⟨yss.length - (n + 1), by omega, n + 1, y, ts2, a1, a2, a3, a4, by omega, rfl⟩, ?_⟩, fun h => by cases h⟩
      have e0B := e0.trans eB
      obtain ⟨k, gk, hk⟩ := hL.at (i := A) (by omega)
      have hrow : rows.getD A [] = rowI ys (1 + n) g 0 := by
        have h2 : (rows.drop A).getD 0 [] = rowI ys (1 + n) g 0 := by rw [hd1]; exact app_get (by omega)
        rwa [List.getD_eq_getElem?_getD, List.getElem?_drop, Nat.add_zero, ← List.getD_eq_getElem?_getD] at h2
      rw [hrow] at hk
      refine q_asg (v := .int ((A + (pI ys.length).toNat : Nat) : Int)) (ev_is (ev_op (ev_var rfl) (ev_op (ev_op (ev_var rfl) (ev_var rfl) (rv_ixL (sq_of (e0B _ _ ha)) (at_ref gk))) ev_c (rv_ixL (sq_of (e0B _ _ hk)) (v := .int (pI ys.length)) (at_get (ws := rowI ys (1 + n) g 0) (j := 2) (by rw [row_len (by omega)]; decide)))) rv_I0) (congrArg V.int (by omega))) fun H3 e3 => ?_
      have e03 := e0B.trans e3
      refine q_appU (xs := ts.map V.ref) (ys := ys.map V.int) ((eB.trans e3) _ _ hil) (ev_var rfl) (eu_callN (xs := ((ks.drop A).take (pI ys.length).toNat).map V.ref) (el_is (el_sl (ev_var rfl) (eo_some (ev_var rfl)) (eo_some (ev_var rfl)) (sq_of (e03 _ _ ha))) ?_) (fun p B1 hp eB1 Q' q' => ⟨p, (ks.drop A).take (pI ys.length).toNat, ys, 1 + n, g, rfl, hp, ?_, hyp.1, hyp.2, hPi.mono (e03.trans eB1), hPc.mono (e03.trans eB1), q'⟩)) (by rw [List.length_map, htl]; have := len_le yss; omega) fun u H4 hu e4 h4 => ?_
      · rw [cut_mid (ks.map V.ref) (by omega) (by rw [List.length_map]; omega), List.map_take, List.map_drop, show A + (pI ys.length).toNat - A = (pI ys.length).toNat by omega]
      · have := ((hL.drop A).take (pI ys.length).toNat).ex (e03.trans eB1)
        rw [show (rows.drop A).take (pI ys.length).toNat = rowsI ys (1 + n) g by rw [hd1, ← hrl, List.take_left]] at this
        exact this
      refine s_asg (v := .int (lenR (yss.take (n + 1)) : Int)) (ev_is (ev_var rfl) (by rw [hA2])) fun H5 e5 => ⟨_, ts ++ [u], rfl, ((e03.trans e4).mut hi0).trans e5, by rw [e5 _ _ upd_same, List.map_append]; rfl, ?_⟩
      have hil3 := (eB.trans e3) _ _ hil
      have htk : yss.take (n + 1) = yss.take n ++ [ys] := by rw [List.take_add_one, hy]; rfl
      rw [htk]
      refine TLs.ex ?_ e5
      have hun : u ≠ il := fun c => by rw [c, hil3] at hu; cases hu
      exact ((hts.ex (eB.trans e3)).mut e4 hil3).snoc (by rw [upd_ne hun]; exact h4)
end

end K68

set_option Elab.async false
set_option linter.all false
set_option maxRecDepth 100000
set_option maxHeartbeats 4000000
namespace K68
open PySem PySem.Spec PyProof.Rows L2 Evl LK LT LG LS LQ LX LO LN LP LH LV LZ LW StX
theorem allF2 (f : Nat → Bool) : allF 2 f = (f 0 && f 1) := by simp [allF, List.range_succ]
theorem allF3 (f : Nat → Bool) : allF 3 f = (f 0 && (f 1 && f 2)) := by simp [allF, List.range_succ, Bool.and_assoc]
theorem allF4 (f : Nat → Bool) : allF 4 f = (f 0 && (f 1 && (f 2 && f 3))) := by simp [allF, List.range_succ, Bool.and_assoc]
theorem allF5 (f : Nat → Bool) : allF 5 f = (f 0 && (f 1 && (f 2 && (f 3 && f 4)))) := by simp [allF, List.range_succ, Bool.and_assoc]
theorem allF6 (f : Nat → Bool) : allF 6 f = (f 0 && (f 1 && (f 2 && (f 3 && (f 4 && f 5))))) := by simp [allF, List.range_succ, Bool.and_assoc]
theorem fld_name (v : Int) : fldB "name" v = isNm v := if_pos rfl
theorem fld_inode (v : Int) : fldB "inode" v = decide (v ≥ 1) := by unfold fldB; rw [if_neg (by decide +kernel), if_pos rfl]
theorem fld_kind (v : Int) : fldB "kind" v = (decide (1 ≤ v) && decide (v ≤ 2)) := by
  unfold fldB
  rw [if_neg (by decide +kernel), if_neg (by decide +kernel), if_pos rfl, Bool.eq_iff_iff]
  simp [inV, eqV]
  omega
theorem fld_word (v : Int) : fldB "word" v = true := by unfold fldB; rw [if_neg (by decide +kernel), if_neg (by decide +kernel), if_neg (by decide +kernel), decide_eq_true rfl, Bool.true_or]
theorem fld_owner (v : Int) : fldB "owner" v = decide (v ≤ 255) := by unfold fldB; rw [if_neg (by decide +kernel), if_neg (by decide +kernel), if_neg (by decide +kernel), decide_eq_false (by decide +kernel), Bool.false_or]
theorem nn_all {ws : List Int} (h : ∀ v ∈ ws, 0 ≤ v) : nnB ws = true := allF_iff.mpr fun i hi => by
  rw [decide_eq_true_eq, List.getD_eq_getElem?_getD, List.getElem?_eq_getElem hi]
  exact h _ (List.getElem_mem hi)
theorem get_no {k : Int} (h : ¬ (1 ≤ k ∧ k ≤ 10)) : getW wordsOf k = none := by
  have hw : ∀ kv ∈ wordsOf, 1 ≤ kv.1 ∧ kv.1 ≤ 10 := by decide +kernel
  unfold getW
  rw [Option.map_eq_none_iff, List.find?_eq_none]
  intro kv hkv e
  have := hw kv hkv
  rw [decide_eq_true_eq] at e
  omega
theorem siz_eq {k : Int} {fs : List Str} {r : List Int} (h : k ≠ 6) : sizB k fs r = decide (r.length = fs.length) := by
  unfold sizB
  rw [decide_eq_false h, Bool.or_false, Bool.eq_iff_iff]
  simp
  omega

theorem nm_words : isNm MAIN = true ∧ isNm (40 ^ 10) = true ∧ isNm (2 * 40 ^ 10) = true ∧ isNm (39 * 40 ^ 10) = true := by decide +kernel
theorem nm_wd {z : Int} (h : Wd z) : isNm z = true := by
  rcases h with rfl | rfl | rfl
  · exact nm_words.2.1
  · exact nm_words.2.2.1
  · exact nm_words.2.2.2


theorem Intent.nn {m : Int} {ys : List Int} (h : Intent m ys) : ∀ y ∈ ys, 0 ≤ y := by
  have hw : ∀ {z : Int}, Wd z → 0 ≤ z := fun h => by rcases h with rfl | rfl | rfl <;> decide
  have hm : (0 : Int) ≤ MAIN := by decide
  intro y hy
  cases h with
  | k6 hi ha hn hs hc =>
    rcases List.mem_append.mp hy with hy | hy
    · simp only [List.mem_cons, List.not_mem_nil, or_false] at hy
      rcases hy with rfl | rfl | rfl | rfl <;> omega
    · exact hc y hy
  | k1 hi hw' hk ho =>
    have := hw hw'
    simp only [List.mem_cons, List.not_mem_nil, or_false] at hy
    rcases hy with rfl | rfl | rfl | rfl | rfl | rfl <;> omega
  | k2 hi hj hw' =>
    have := hw hw'
    simp only [List.mem_cons, List.not_mem_nil, or_false] at hy
    rcases hy with rfl | rfl | rfl | rfl | rfl <;> omega
  | k34 hk hi hw' =>
    have := hw hw'
    simp only [List.mem_cons, List.not_mem_nil, or_false] at hy
    rcases hy with rfl | rfl | rfl | rfl <;> omega
  | k5 hi hw' hj hx =>
    have := hw hw'
    have := hw hx
    simp only [List.mem_cons, List.not_mem_nil, or_false] at hy
    rcases hy with rfl | rfl | rfl | rfl | rfl | rfl <;> omega
  | k7 hi ha h =>
    simp only [List.mem_cons, List.not_mem_nil, or_false] at hy
    rcases hy with rfl | rfl | rfl | rfl <;> omega
  | k8 hi ha ha2 hj hb hb2 hu =>
    simp only [List.mem_cons, List.not_mem_nil, or_false] at hy
    rcases hy with rfl | rfl | rfl | rfl | rfl | rfl | rfl <;> omega
  | k9 hi ho =>
    simp only [List.mem_cons, List.not_mem_nil, or_false] at hy
    rcases hy with rfl | rfl | rfl | rfl <;> omega
  | k10 hi =>
    simp only [List.mem_cons, List.not_mem_nil, or_false] at hy
    rcases hy with rfl | rfl | rfl <;> omega

theorem Intent.chk {m : Int} {ys : List Int} (h : Intent m ys) : chkB ys = true := by
  have hn := nn_all h.nn
  have hM := nm_words.1
  have go : ∀ (k : Int) (r : List Int) (fs : List Str), nnB (k :: r) = true → getW wordsOf k = some fs → k ≠ 6 → r.length = fs.length → (allF fs.length fun i => fldB (fs.getD i "") (r.getD i 0)) = true → bndB k r = true → chkB (k :: r) = true := fun k r fs h0 h1 h2 h3 h4 h5 => by
    rw [chk_cons, h0, chkK_some h1, siz_eq h2, decide_eq_true h3, h4, h5]
    rfl
  cases h with
  | @k1 i w k o hi hw hk ho =>
    refine go _ _ ["name", "inode", "name", "kind", "owner"] hn rfl (by decide) rfl ?_ rfl
    rw [show (["name", "inode", "name", "kind", "owner"] : List Str).length = 5 from rfl, allF5]
    show (fldB "name" MAIN && (fldB "inode" i && (fldB "name" w && (fldB "kind" k && fldB "owner" o)))) = true
    rw [fld_name, fld_inode, fld_name, fld_kind, fld_owner, hM, nm_wd hw]
    simp [hi, hk.1, hk.2, ho.2]
  | @k2 i j w hi hj hw =>
    refine go _ _ ["name", "inode", "inode", "name"] hn rfl (by decide) rfl ?_ rfl
    rw [show (["name", "inode", "inode", "name"] : List Str).length = 4 from rfl, allF4]
    show (fldB "name" MAIN && (fldB "inode" i && (fldB "inode" j && fldB "name" w))) = true
    rw [fld_name, fld_inode, fld_inode, fld_name, hM, nm_wd hw]
    simp [hi, hj]
  | @k34 k i w hk hi hw =>
    rcases hk with rfl | rfl
    · refine go _ _ ["name", "inode", "name"] hn rfl (by decide) rfl ?_ rfl
      rw [show (["name", "inode", "name"] : List Str).length = 3 from rfl, allF3]
      show (fldB "name" MAIN && (fldB "inode" i && fldB "name" w)) = true
      rw [fld_name, fld_inode, fld_name, hM, nm_wd hw]
      simp [hi]
    · refine go _ _ ["name", "inode", "name"] hn rfl (by decide) rfl ?_ rfl
      rw [show (["name", "inode", "name"] : List Str).length = 3 from rfl, allF3]
      show (fldB "name" MAIN && (fldB "inode" i && fldB "name" w)) = true
      rw [fld_name, fld_inode, fld_name, hM, nm_wd hw]
      simp [hi]
  | @k5 i w j x hi hw hj hx =>
    refine go _ _ ["name", "inode", "name", "inode", "name"] hn rfl (by decide) rfl ?_ rfl
    rw [show (["name", "inode", "name", "inode", "name"] : List Str).length = 5 from rfl, allF5]
    show (fldB "name" MAIN && (fldB "inode" i && (fldB "name" w && (fldB "inode" j && fldB "name" x)))) = true
    rw [fld_name, fld_inode, fld_name, fld_inode, fld_name, hM, nm_wd hw, nm_wd hx]
    simp [hi, hj]
  | @k6 i a cs hi ha hl hs hc =>
    show chkB (6 :: (MAIN :: i :: a :: cs)) = true
    rw [chk_cons, show nnB (6 :: (MAIN :: i :: a :: cs)) = true from hn, chkK_some (k := 6) (fs := ["name", "inode", "word"]) rfl, show sizB 6 ["name", "inode", "word"] (MAIN :: i :: a :: cs) = true by unfold sizB; simp]
    rw [show (["name", "inode", "word"] : List Str).length = 3 from rfl, allF3]
    show (true && (true && ((fldB "name" MAIN && (fldB "inode" i && fldB "word" a)) && (decide (((MAIN :: i :: a :: cs).length : Int) ≥ 4) && decide (a + (cs.length : Int) ≤ 2048))))) = true
    rw [fld_name, fld_inode, fld_word, hM]
    simp [hi]
    omega
  | @k7 i a hi ha h =>
    refine go _ _ ["name", "inode", "word"] hn rfl (by decide) rfl ?_ (decide_eq_true (by show _ ≤ (2048 : Int); exact Int.le_of_lt_add_one h))
    rw [show (["name", "inode", "word"] : List Str).length = 3 from rfl, allF3]
    show (fldB "name" MAIN && (fldB "inode" i && fldB "word" a)) = true
    rw [fld_name, fld_inode, fld_word, hM]
    simp [hi]
  | @k8 i a j b u hi ha ha2 hj hb hb2 hu =>
    refine go _ _ ["name", "inode", "word", "inode", "word", "word"] hn rfl (by decide) rfl ?_ ?_
    · rw [show (["name", "inode", "word", "inode", "word", "word"] : List Str).length = 6 from rfl, allF6]
      show (fldB "name" MAIN && (fldB "inode" i && (fldB "word" a && (fldB "inode" j && (fldB "word" b && fldB "word" u))))) = true
      rw [fld_name, fld_inode, fld_word, fld_inode, fld_word, fld_word, hM]
      simp [hi, hj]
    · show (decide (u ≥ 1) && (decide (a + u ≤ 64) && decide (b + u ≤ 64))) = true
      simp
      omega
  | @k9 i o hi ho =>
    refine go _ _ ["name", "inode", "owner"] hn rfl (by decide) rfl ?_ rfl
    rw [show (["name", "inode", "owner"] : List Str).length = 3 from rfl, allF3]
    show (fldB "name" MAIN && (fldB "inode" i && fldB "owner" o)) = true
    rw [fld_name, fld_inode, fld_owner, hM]
    simp [hi, ho.2]
  | @k10 i hi =>
    refine go _ _ ["name", "inode"] hn rfl (by decide) rfl ?_ rfl
    rw [show (["name", "inode"] : List Str).length = 2 from rfl, allF2]
    show (fldB "name" MAIN && fldB "inode" i) = true
    rw [fld_name, fld_inode, hM]
    simp [hi]

end K68

set_option Elab.async false
set_option linter.all false
set_option maxRecDepth 100000
set_option maxHeartbeats 4000000
namespace K68
open PySem PySem.Spec PyProof.Rows L2 Evl LK LT LG LS LQ LX LO LN LP LH LV LZ LW StX
structure TxL (mg : Str → Option Value) (K : PySem.W.Frag) (C : Addr) : Prop where
  sum : mg "sum" = none
  gFIRST_SECTOR : ∃ t, mg "FIRST_SECTOR" = some (.int 4 t)
  gLOG_SECTORS : ∃ t, mg "LOG_SECTORS" = some (.int 16 t)
  cl : Cls K C
  nG : NoAttr K C "generation"
  nS : NoAttr K C "next_sector"
  nR : NoAttr K C "next_record"
  mgL : mg "Log" = some (.ref C)
/-! ### the log -/
def flds (g s r : Int) : List (Str × V) := [(("generation" : Str), .int g), (("next_sector" : Str), .int s), (("next_record" : Str), .int r)]
theorem fl_g (g s r : Int) : (flds g s r).lookup ("generation" : Str) = some (V.int g) := rfl
theorem fl_s (g s r : Int) : (flds g s r).lookup ("next_sector" : Str) = some (V.int s) := rfl
theorem fl_r (g s r : Int) : (flds g s r).lookup ("next_record" : Str) = some (V.int r) := rfl
theorem fl_ps (g s r s' : Int) : putF "next_sector" (V.int s') (flds g s r) = flds g s' r := rfl
theorem fl_pr (g s r r' : Int) : putF "next_record" (V.int r') (flds g s r) = flds g s r' := rfl
theorem fl_no (g s r : Int) {m : Str} (h : m ≠ "generation" ∧ m ≠ "next_sector" ∧ m ≠ "next_record") : (flds g s r).lookup m = Option.none := by
  unfold flds
  rw [List.lookup_cons, beq_false_of_ne h.1, List.lookup_cons, beq_false_of_ne h.2.1, List.lookup_cons, beq_false_of_ne h.2.2]
  rfl
def Lg (C : Addr) (H : Hp) (p : Addr) (g s r : Int) : Prop := ∃ dx, H p = some (.ins C dx (flds g s r))
theorem Lg.ex {C p : Addr} {H H' : Hp} {g s r : Int} (h : Lg C H p g s r) (e : Ex H H') : Lg C H' p g s r := let ⟨dx, h⟩ := h; ⟨dx, e _ _ h⟩
/-- a list of tuples of ints -/
def TL (H : Hp) (a : Addr) (yss : List (List Int)) : Prop := ∃ ts : List Addr, H a = some (.lst (ts.map V.ref)) ∧ ts.length = yss.length ∧ ∀ (i : Nat) (t : Addr) (ys : List Int), ts[i]? = some t → yss[i]? = some ys → H t = some (.tup (ys.map V.int))
theorem TL.ex {H H' : Hp} {a : Addr} {yss : List (List Int)} (h : TL H a yss) (e : Ex H H') : TL H' a yss := let ⟨ts, h1, h2, h3⟩ := h; ⟨ts, e _ _ h1, h2, fun i t ys x y => e _ _ (h3 i t ys x y)⟩
def Few (yss : List (List Int)) : Prop := yss.length ≤ 16 ∧ ∀ ys ∈ yss, ys.length ≤ 90
def part (yss : List (List Int)) (j : Nat) : Int := pI (yss.getD j []).length
def tot (yss : List (List Int)) (i : Nat) : Int := preSum (part yss) i
theorem part_b {yss : List (List Int)} (h : Few yss) (j : Nat) : 0 ≤ part yss j ∧ part yss j ≤ 23 := by
  unfold part
  have h2 : (yss.getD j []).length ≤ 90 := by
    rw [List.getD_eq_getElem?_getD]
    cases e : yss[j]? with
    | none => exact Nat.zero_le _
    | some ys => exact h.2 ys (List.mem_of_getElem? e)
  exact ⟨by have := pI_pos (yss.getD j []).length; omega, pI_le h2⟩
theorem tot_b {yss : List (List Int)} (h : Few yss) : ∀ i : Nat, 0 ≤ tot yss i ∧ tot yss i ≤ 23 * i
  | 0 => ⟨by show (0 : Int) ≤ 0; decide, by show (0 : Int) ≤ _; omega⟩
  | i + 1 => by
    have h1 := tot_b h i
    have h2 := part_b h i
    have e : tot yss (i + 1) = tot yss i + part yss i := rfl
    rw [e]
    omega
theorem part_at {yss : List (List Int)} {i : Nat} {ys : List Int} (h : yss[i]? = some ys) : part yss i = pI ys.length := by
  unfold part
  rw [List.getD_eq_getElem?_getD, h]
  rfl
def spLin (C : Addr) : Sp := fun vs H Q _ => ∃ p dx g, vs = [.ref p, .int g] ∧ H p = some (.ins C dx []) ∧ ∀ H1, Bx p H H1 → Lg C H1 p g 4 1 → Q .non H1
def spFits (C Pt : Addr) : Sp := fun vs H Q _ => ∃ p g s r a yss, vs = [.ref p, .ref a] ∧ Lg C H p g s r ∧ TL H a yss ∧ Few yss ∧ Tab H Pt ∧ RetV (.bl (decide (s + tot yss yss.length ≤ 20))) H Q
section
variable {P : Program} {w : World} {K : PySem.W.Frag} {mg : Str → Option Value} {base : Heap} {C Pt : Addr}
theorem ok_lin {f : Addr} {fd : FuncData} (F : Fun K "__init__" "Log.__init__" sLin f fd) (T : TxL mg K C) : FnOk P w K mg base CX0 1 f fd ["self", "generation"] (spLin C) := by
  obtain ⟨_, gFIRST_SECTOR⟩ := T.gFIRST_SECTOR
  refine F.ok scLin (fun vs H Q E h => ?_) (fun cdv A outer s H vs Q E hr h => ?_)
  · obtain ⟨p, dx, g, rfl, _⟩ := h
    rfl
  · obtain ⟨p, dx, g, rfl, ho, q⟩ := h
    refine ⟨_, (pss_cons (ps_fld (pv 0) (pv 1) rfl)
      (pss_cons (ps_fld (pv 0) (pe_glob (v := .int 4) rfl gFIRST_SECTOR ⟨_, rfl⟩) rfl)
      (pss_one (ps_fld (pv 0) pe_int rfl)))), ?_⟩
    refine q_fld (ev_var rfl) (ev_var rfl) ho T.cl T.nG (by show 0 < 1000; decide) fun H1 e1 => ?_
    refine q_fld ev_c (ev_var rfl) upd_same T.cl T.nS (by show 1 < 1000; decide) fun H2 e2 => ?_
    refine s_fld ev_c (ev_var rfl) upd_same T.cl T.nR (by show 2 < 1000; decide) fun H3 e3 => ?_
    refine q _ (((Bx.of e1).up.trans (Bx.of e2)).up.trans (Bx.of e3)).up ⟨dx, upd_same⟩
theorem ok_fits {f fS c : Addr} {fd fdS : FuncData} (F : FunC K "fits" "Log.fits" sFits f fd c) (TB : LamX.TabB base mg c Pt) (FSo : Fun K "sectors_of" "sectors_of" sSo fS fdS) (bSo : Binds K fdS ["intent"] []) (gSo : mg "sectors_of" = some (.ref fS)) (GSo : FnOk P w K mg base CX0 2 fS fdS ["intent"] (spSo K)) (T : TxL mg K C) : FnOk P w K mg base CX0 5 f fd ["self", "intents"] (spFits C Pt) := by
  obtain ⟨_, gFIRST_SECTOR⟩ := T.gFIRST_SECTOR
  obtain ⟨_, gLOG_SECTORS⟩ := T.gLOG_SECTORS
  refine F.ok scFits (fun vs H Q E h => ?_) (fun A outer s H vs Q E hr h => ?_)
  · obtain ⟨p, g, s, r, a, yss, rfl, _⟩ := h
    rfl
  · obtain ⟨p, g, s, r, a, yss, rfl, ⟨dx, ho⟩, ⟨ts, ha, hl, hT⟩, hf, hP, q⟩ := h
    refine ⟨_, (pss_one (ps_ret (pe_cmpR op_le (pe_op op_add (pe_fld (pv 0) rfl) (LH.pe_gen (own := [("intent", 2)]) (g := (gName 2)) (b := "sum") (by first | rfl | decide +kernel) (fun _ _ _ _ _ _ _ _ ok R => LH.call_sum_rdy ok R) hr scFits.nd (by rfl) T.sum TB rfl ⟨rfl, by decide +kernel, rfl⟩ (blkOk_by (own := [("intent", 2)]) (N := ["self", "intents", "intent"]) (sc := defScope sFits) (by decide +kernel)) (pi_list (pv 1)) (fun _ => rfl) (fun _ _ _ _ _ _ _ => pg_name (i := 2) scFits.nd rfl (Or.inl rfl)) (fun _ _ _ _ _ _ hr => (pe_call GSo (hr.mono (by decide)) (by rfl) gSo FSo.kp bSo .nil pass0 (pa_cons (pv 2) pa_nil))))) (pe_op op_add (pe_glob (v := .int 4) rfl gFIRST_SECTOR ⟨_, rfl⟩) (pe_glob (v := .int 16) rfl gLOG_SECTORS ⟨_, rfl⟩)) (nomark _)))), ?_⟩
    have hb := tot_b hf
    have hlen : yss.length ≤ 16 := hf.1
    refine s_ret (ev_op (ev_op (ev_fld (ev_var rfl) ho T.cl T.nS (fl_s _ _ _)) (ev_gxL (xs := ts.map V.ref) (ev_var rfl) (sq_of ha) hP (ok_sum (part yss) fun j hj => ?_) (fun _ => rfl) fun i x H1 e1 hx => ?_) rv_I0) (ev_op ev_c ev_c rv_I0) rv_I0) fun H1 e1 => ?_
    · rw [List.length_map] at hj
      have h1 := part_b hf j
      have h2 := hb (j + 1)
      have e : preSum (part yss) (j + 1) = tot yss (j + 1) := rfl
      rw [e]
      exact ⟨⟨by omega, by omega⟩, by omega, by omega⟩
    · rw [List.getElem?_map] at hx
      obtain ⟨t, ht, rfl⟩ := Option.map_eq_some_iff.mp hx
      have hi := (List.getElem?_eq_some_iff.mp ht).1
      have hy : yss[i]? = some yss[i] := List.getElem?_eq_getElem (by omega)
      rw [part_at hy]
      exact ev_call (ea_cons (ev_var rfl) ea_nil) (sv_so (st_of (e1 _ _ (hT i t _ ht hy))))
    · rw [List.length_map, hl]
      exact q H1 e1
end
/-! ### writes: sectors and their words -/
def Ws (H : Hp) (es : List Addr) (s : Int) (rows : List (List Int)) : Prop := es.length = rows.length ∧ ∀ (j : Nat) (e : Addr) (row : List Int), es[j]? = some e → rows[j]? = some row → ∃ k, H e = some (.tup [.int (s + j), .ref k]) ∧ H k = some (.lst (row.map V.int))
def Wr (H : Hp) (w : Addr) (s : Int) (rows : List (List Int)) : Prop := ∃ es : List Addr, H w = some (.lst (es.map V.ref)) ∧ Ws H es s rows
theorem Ws.ex {H H' : Hp} {es : List Addr} {s : Int} {rows : List (List Int)} (h : Ws H es s rows) (e : Ex H H') : Ws H' es s rows := ⟨h.1, fun j x row a b => let ⟨k, h1, h2⟩ := h.2 j x row a b; ⟨k, e _ _ h1, e _ _ h2⟩⟩
theorem Wr.ex {H H' : Hp} {w : Addr} {s : Int} {rows : List (List Int)} (h : Wr H w s rows) (e : Ex H H') : Wr H' w s rows := let ⟨es, h1, h2⟩ := h; ⟨es, e _ _ h1, h2.ex e⟩
theorem Ws.snoc {H : Hp} {es : List Addr} {s : Int} {rows : List (List Int)} {x k : Addr} {row : List Int} (h : Ws H es s rows) (hx : H x = some (.tup [.int (s + rows.length), .ref k])) (hk : H k = some (.lst (row.map V.int))) : Ws H (es ++ [x]) s (rows ++ [row]) := by
  refine ⟨by rw [List.length_append, List.length_append, h.1]; rfl, fun i e row' a b => ?_⟩
  by_cases hi : i < es.length
  · rw [List.getElem?_append_left hi] at a
    rw [List.getElem?_append_left (by rw [← h.1]; exact hi)] at b
    exact h.2 i e row' a b
  · rw [List.getElem?_append_right (by omega)] at a
    rw [List.getElem?_append_right (by rw [← h.1]; omega), ← h.1] at b
    cases hz : i - es.length with
    | zero =>
      rw [hz] at a b
      cases a
      cases b
      have e : i = rows.length := by rw [← h.1]; omega
      rw [e]
      exact ⟨k, hx, hk⟩
    | succ j =>
      rw [hz] at a
      cases a
/-- the rows of the first i intents -/
def allR (yss : List (List Int)) (r g : Int) (i : Nat) : List (List Int) := (List.range i).flatMap fun j => rowsI (yss.getD j []) (r + j) g
theorem allR_succ (yss : List (List Int)) (r g : Int) (i : Nat) : allR yss r g (i + 1) = allR yss r g i ++ rowsI (yss.getD i []) (r + i) g := by
  unfold allR
  rw [List.range_succ, List.flatMap_append]
  simp
theorem allR_len (yss : List (List Int)) (r g : Int) : ∀ i : Nat, ((allR yss r g i).length : Int) = tot yss i
  | 0 => rfl
  | i + 1 => by
    rw [allR_succ, List.length_append]
    have h1 := allR_len yss r g i
    have h2 := rows_len (yss.getD i []) (r + i) g
    have e : tot yss (i + 1) = tot yss i + part yss i := rfl
    have e2 : part yss i = pI (yss.getD i []).length := rfl
    omega
theorem allR_8 {yss : List (List Int)} {r g : Int} {i : Nat} {row : List Int} (h : row ∈ allR yss r g i) : row.length = 8 := by
  unfold allR at h
  obtain ⟨j, _, h⟩ := List.mem_flatMap.mp h
  obtain ⟨k, hk, e⟩ := List.mem_iff_getElem.mp h
  obtain ⟨h1, h2⟩ := rows_at (i := k) (row := row) (by rw [List.getElem?_eq_getElem hk, e])
  rw [h2]
  exact row_len h1
theorem ks_at {ks : List Addr} {rows : List (List Int)} (h : ks.length = rows.length) {i : Nat} {x : V} (hx : (ks.map V.ref)[i]? = some x) : ∃ (k : Addr) (row : List Int), x = .ref k ∧ ks[i]? = some k ∧ rows[i]? = some row := by
  rw [List.getElem?_map] at hx
  obtain ⟨k, hk, rfl⟩ := Option.map_eq_some_iff.mp hx
  have hi := (List.getElem?_eq_some_iff.mp hk).1
  exact ⟨k, rows[i], rfl, hk, List.getElem?_eq_getElem (by omega)⟩
theorem take_snoc {α : Type} {l : List α} {i : Nat} {x : α} (h : l[i]? = some x) : l.take (i + 1) = l.take i ++ [x] := by
  rw [List.take_add_one, h]
  rfl
def spApp (C CS Pt : Addr) : Sp := fun vs H Q E => ∃ p g s r a yss, vs = [.ref p, .ref a] ∧ Lg C H p g s r ∧ TL H a yss ∧ Few yss ∧ Tab H Pt ∧ (¬ s + tot yss yss.length ≤ 20 → ∀ H1, Ex H H1 → E (.ref CS) none H1) ∧
  (s + tot yss yss.length ≤ 20 → ∀ wl H1, H wl = none → Bx p H H1 → Lg C H1 p g (s + tot yss yss.length) (r + yss.length) → Wr H1 wl s (allR yss r g yss.length) → Q (.ref wl) H1)
theorem sv_fits {C Pt : Addr} {H : Hp} {p a : Addr} {g s r : Int} {yss : List (List Int)} (h : Lg C H p g s r) (hT : TL H a yss) (hf : Few yss) (hP : Tab H Pt) : SpV (spFits C Pt) [.ref p, .ref a] H (.bl (decide (s + tot yss yss.length ≤ 20))) := fun H1 e1 Q q E => ⟨p, g, s, r, a, yss, rfl, h.ex e1, hT.ex e1, hf, hP.mono e1, q⟩
section
variable {P : Program} {w : World} {K : PySem.W.Frag} {mg : Str → Option Value} {base : Heap} {C CS CL Pt : Addr}
end
section
variable {P : Program} {w : World} {K : PySem.W.Frag} {mg : Str → Option Value} {base : Heap} {C CS CL Pt : Addr}
/-- o.f += e -/
theorem s_fldaug {σ : L2.St} {H : Hp} {ta te : TE} {D : Ends} {p dx : Addr} {fs : List (Str × V)} {m : Str} {a b : Int} (ha : Ev ta σ H (.ref p)) (hi : H p = some (.ins C dx fs)) (c : Cls K C) (n : NoAttr K C m) (hl : fs.lookup m = some (.int a)) (hz : fs.length < 1000) (he : Ev te σ H (.int b)) (k : ∀ H1, Ex H H1 → D.nx σ (upd H1 p (.ins C dx (putF m (.int (a + b)) fs)))) :
    sFldAug K ta te (ipI fun i j => i + j) m D σ H := ha H (Ex.refl _) _ fun H1 e1 => ⟨p, C, dx, fs, .int a, rfl, e1 _ _ hi, c, n, hl, he H1 e1 _ fun H2 e2 => ⟨a, b, rfl, rfl, dx, fs, e2 _ _ (e1 _ _ hi), hz, k H2 (e1.trans e2)⟩⟩
theorem ok_app {f fF fR : Addr} {fd fdF fdR : FuncData} (F : Fun K "append_records" "Log.append_records" sApp f fd) (Gfits : FnOk P w K mg base CX0 5 fF fdF ["self", "intents"] (spFits C Pt)) (bfits : Binds K fdF ["self", "intents"] []) (mfits : Meth K C "fits" fF)
    (FRs : Fun K "record_sectors" "record_sectors" sRs fR fdR) (bRs : Binds K fdR ["intent", "record", "generation"] []) (gRs : mg "record_sectors" = some (.ref fR)) (GRs : FnOk P w K mg base CX0 3 fR fdR ["intent", "record", "generation"] (spRs K)) (T : TxL mg K C) (XS : Xc K mg "NoSpace" CS) : FnOk P w K mg base (L2.CX P w) 6 f fd ["self", "intents"] (spApp C CS Pt) := by
  refine F.okX scApp (fun vs H Q E h => ?_) (fun cdv A outer s H vs Q E hr h => ?_)
  · obtain ⟨p, g, s, r, a, yss, rfl, _⟩ := h
    rfl
  · obtain ⟨p, g, s, r, a, yss, rfl, hLg, hTL, hf, hP, qE, q⟩ := h
    obtain ⟨dx, ho⟩ := hLg
    obtain ⟨ts, ha, hl, hT⟩ := hTL
    have TL := T
    refine ⟨_, (pss_cons (ps_if (pt_not (pt_val (pe_meth (pv 0) TL.cl mfits Gfits (hr.mono (by decide)) bfits .nil pass0 (pa_cons (pv 1) pa_nil)))) (pss_one (ps_raise0 rfl XS (takes_of rfl rfl rfl rfl) (by rfl))) pss_nil)
      (pss_cons (ps_set (i := 2) scApp.nd rfl (Or.inl rfl) (pe_lst pa_nil))
      (pss_cons (ps_for (passes_of rfl) rfl (pi_list (pv 1)) (pg_name (i := 3) scApp.nd rfl (Or.inl rfl)) (pss_cons (ps_for (passes_of rfl) rfl (pi_list (pe_call GRs (hr.mono (by decide)) (by rfl) gRs FRs.kp bRs .nil pass0 (pa_cons (pv 3) (pa_cons (pe_fld (pv 0) rfl) (pa_cons (pe_fld (pv 0) rfl) pa_nil))))) (pg_name (i := 4) scApp.nd rfl (Or.inl rfl)) (pss_cons (ps_expr (pe_bm PySem.F.plainAttrs_list PySem.F.slot_list_append PySem.F.type_list_append mt_append (pv 2) (pa_cons (pe_tup (pa_cons (pe_fld (pv 0) rfl) (pa_cons (pv 4) pa_nil))) pa_nil)))
      (pss_one (ps_fldaug (pv 0) pe_int in_add))))
      (pss_one (ps_fldaug (pv 0) pe_int in_add))))
      (pss_one (ps_ret (pv 2)))))), ?_⟩
    have hlen : yss.length ≤ 16 := hf.1
    have hb := tot_b hf
    have pa : a ≠ p := fun z => by rw [z, ho] at ha; cases ha
    refine q_when (et_not (et_B (ev_meth (ev_var rfl) ho (fl_no _ _ _ ⟨by decide +kernel, by decide +kernel, by decide +kernel⟩) (ea_cons (ev_var rfl) ea_nil) (sv_fits ⟨dx, ho⟩ ⟨ts, ha, hl, hT⟩ hf hP)))) (fun hb H1 e1 => qE (by simpa using hb) H1 e1) (fun hfit H0 e0 => ?_)
    have hfit : s + tot yss yss.length ≤ 20 := by simpa using hfit
    refine q_asgL (el_lst ea_nil (by decide)) fun wl H1 hw e1 h1 => ?_
    have e01 := e0.trans e1
    have hwH : H wl = none := fresh_back e0 hw
    have wp : wl ≠ p := fun z => by rw [z, e0 _ _ ho] at hw; cases hw
    refine q_forLn (xs := ts.map V.ref) (ev_var rfl) (sq_of (e01 _ _ ha)) (fun i σ' H' => ∃ y3 y4 es, σ' = [some (.ref p), some (.ref a), some (.ref wl), y3, y4] ∧ Bx p H H' ∧ H' p = some (.ins C dx (flds g (s + tot yss i) (r + i))) ∧ H' wl = some (.lst (es.map V.ref)) ∧ Ws (frz [wl, p] H') es s (allR yss r g i) ∧ i ≤ yss.length)
      (fun H2 e2 => ⟨none, none, [], rfl, Bx.of (e01.trans e2), by rw [(e01.trans e2) _ _ ho, show tot yss 0 = 0 from rfl, Int.add_zero, show r + ((0 : Nat) : Int) = r by omega], e2 _ _ h1, ⟨rfl, fun j e row a => nomatch a⟩, Nat.zero_le _⟩) (fun i σ' H' _ pp => by obtain ⟨_, _, _, _, e, _⟩ := pp; exact e.l pa (sq_of ha)) (fun i x σ' H' hx pp => ?_) (fun σ' H' pp => ?_)
    · obtain ⟨y3, y4, es, rfl, e2, hp, hes, hW, hi⟩ := pp
      rw [List.getElem?_map] at hx
      obtain ⟨t, ht, rfl⟩ := Option.map_eq_some_iff.mp hx
      have hil := (List.getElem?_eq_some_iff.mp ht).1
      have hy : yss[i]? = some yss[i] := List.getElem?_eq_getElem (by omega)
      have hyd : yss.getD i [] = yss[i] := by rw [List.getD_eq_getElem?_getD, hy]; rfl
      have hy90 := hf.2 _ (List.mem_of_getElem? hy)
      have hbi := hb i
      have htt := hT i t _ ht hy
      have tp : t ≠ p := fun z => by rw [z, ho] at htt; cases htt
      refine q_forCall (ea_cons (ev_var rfl) (ea_cons (ev_fld (ev_var rfl) hp T.cl T.nR (fl_r _ _ _)) (ea_cons (ev_fld (ev_var rfl) hp T.cl T.nG (fl_g _ _ _)) ea_nil))) fun H2 e3 => ⟨t, yss[i], r + i, g, rfl, st_of (e3 _ _ (e2 _ _ tp htt)), hy90, fun q1 H3 hq1 e4 hL => ?_⟩
      obtain ⟨ks, hks, hkl, hkr⟩ := hL
      have hrl := rows_len yss[i] (r + i) g
      have hp90 := pI_le hy90
      have e34 := e3.trans e4
      refine ⟨q1, rfl, ⟨_, sq_of hks⟩, for_list (xs := ks.map V.ref) (fun j σ2 H4 => ∃ y4 es2, σ2 = [some (.ref p), some (.ref a), some (.ref wl), some (.ref t), y4] ∧ (∀ b o, b ≠ p → b ≠ wl → H3 b = some o → H4 b = some o) ∧ H4 p = some (.ins C dx (flds g (s + tot yss i + j) (r + i))) ∧ H4 wl = some (.lst (es2.map V.ref)) ∧ Ws (frz [wl, p] H4) es2 s (allR yss r g i ++ (rowsI yss[i] (r + i) g).take j) ∧ j ≤ ks.length)
        ⟨y4, es, rfl, fun b o _ _ h => h, by rw [e34 _ _ hp, show s + tot yss i + ((0 : Nat) : Int) = s + tot yss i by omega], e34 _ _ hes, by rw [List.take_zero, List.append_nil]; exact hW.ex (ex_frz e34), Nat.zero_le _⟩ (fun j σ2 H4 _ pp => ?_) (fun j x σ2 H4 hx pp => ?_) (fun σ2 H4 pp => ?_)⟩
      · obtain ⟨_, _, _, b4, _⟩ := pp
        exact sq_of (b4 _ _ (fun z => by rw [z, e3 _ _ hp] at hq1; cases hq1) (fun z => by rw [z, e3 _ _ hes] at hq1; cases hq1) hks)
      · obtain ⟨y4', es2, rfl, b4, hp4, hes2, hW2, hj⟩ := pp
        obtain ⟨k, row, rfl, hk, hrow⟩ := ks_at hkl hx
        have hjl := (List.getElem?_eq_some_iff.mp hk).1
        have hk3 := hkr j k row hk hrow
        have nk : k ≠ wl := fun z => by
          rw [z, e34 _ _ hes] at hk3
          rcases es with _ | ⟨e0, es⟩
          · rcases row with _ | ⟨z0, row⟩
            · have := (rows_at hrow).2
              have := congrArg List.length this
              rw [row_len (rows_at hrow).1] at this
              cases this
            · cases hk3
          · rcases row with _ | ⟨z0, row⟩
            · cases hk3
            · cases hk3
        have nkp : k ≠ p := fun z => by
          rw [z, e34 _ _ hp] at hk3
          cases hk3
        have hlenR : ((allR yss r g i).length : Int) = tot yss i := allR_len yss r g i
        have htk : ((rowsI yss[i] (r + i) g).take j).length = j := by rw [List.length_take]; omega
        refine q_appU hes2 (ev_var rfl) (eu_tup (ea_cons (ev_fld (ev_var rfl) hp4 T.cl T.nS (fl_s _ _ _)) (ea_cons (ev_var rfl) ea_nil)) (Nat.le_of_ble_eq_true rfl)) (by rw [List.length_map, hW2.1, List.length_append, htk]; omega) fun x H5 hx5 e5 h5 => ?_
        have nx : x ≠ wl := fun z => by rw [z, hes2] at hx5; cases hx5
        have nxp : x ≠ p := fun z => by rw [z, hp4] at hx5; cases hx5
        have hp5 : (upd H5 wl (.lst (es2.map V.ref ++ [.ref x]))) p = some (.ins C dx (flds g (s + tot yss i + j) (r + i))) := by
          rw [upd_ne wp.symm]
          exact e5 _ _ hp4
        refine s_fldaug (ev_var rfl) hp5 T.cl T.nS (fl_s _ _ _) (by show 3 < 1000; decide) ev_c fun H6 e6 => ⟨_, es2 ++ [x], rfl, fun b o n1 n2 h => ?_, ?_, ?_, ?_, hjl⟩
        · rw [upd_ne n1]
          exact e6 _ _ (by rw [upd_ne n2]; exact e5 _ _ (b4 b o n1 n2 h))
        · rw [upd_same, fl_ps, show s + tot yss i + (j : Int) + 1 = s + tot yss i + ((j + 1 : Nat) : Int) by omega]
        · rw [upd_ne wp, e6 _ _ upd_same, List.map_append]
          rfl
        · rw [take_snoc hrow, ← List.append_assoc, frz_upd (by simp)]
          have b6 : Ex (frz [wl, p] H5) (frz [wl, p] H6) := fun a o h => by
            obtain ⟨h7, h8⟩ := frz_some h
            rw [frz_ne h7]
            exact e6 _ _ (by rw [upd_ne fun z => h7 (by rw [z]; simp)]; exact h8)
          have hk4 : H5 k = some (.lst (row.map V.int)) := e5 _ _ (b4 _ _ nkp nk hk3)
          have fz : ∀ b, b ≠ wl → b ≠ p → frz [wl, p] H5 b = H5 b := fun b h1 h2 => frz_ne (by simp [h1, h2])
          exact ((hW2.ex (ex_frz e5)).snoc (x := x) (k := k) (by
            rw [fz x nx nxp, h5, List.length_append, htk]
            rw [show s + tot yss i + (j : Int) = s + (((allR yss r g i).length + j : Nat) : Int) by omega]) (by rw [fz k nk nkp]; exact hk4)).ex b6
      · obtain ⟨y4', es2, rfl, b4, hp4, hes2, hW2, hj⟩ := pp
        rw [List.length_map] at *
        have htk : (rowsI yss[i] (r + i) g).take ks.length = rowsI yss[i] (r + i) g := by rw [hkl, List.take_length]
        rw [htk] at hW2
        refine s_fldaug (ev_var rfl) hp4 T.cl T.nR (fl_r _ _ _) (by show 3 < 1000; decide) ev_c fun H5 e5 => ⟨_, _, es2, rfl, fun b o n h => ?_, ?_, ?_, ?_, by omega⟩
        · rw [upd_ne n]
          have h3 := e34 _ _ (e2 b o n h)
          exact e5 _ _ (b4 b o n (fun z => by rw [z, hwH] at h; cases h) h3)
        · have e : tot yss (i + 1) = tot yss i + part yss i := rfl
          rw [upd_same, fl_pr, e, part_at hy, ← hrl, show s + (tot yss i + ((rowsI yss[i] (r + i) g).length : Int)) = s + tot yss i + (ks.length : Int) by rw [hkl]; omega, show r + ((i + 1 : Nat) : Int) = r + i + 1 by omega]
        · rw [upd_ne wp]
          exact e5 _ _ hes2
        · rw [allR_succ, hyd, frz_upd (by simp)]
          exact hW2.ex (ex_frz e5)
    · obtain ⟨y3, y4, es, rfl, e2, hp, hes, hW, hi⟩ := pp
      rw [List.length_map, hl] at *
      exact s_ret (ev_var rfl) fun H3 e3 => q hfit wl H3 hwH (e2.trans (Bx.of e3)) ⟨dx, e3 _ _ hp⟩ ⟨es, e3 _ _ hes, (hW.ex frz_ex).ex e3⟩
end

end K68

set_option Elab.async false
set_option linter.all false
set_option maxRecDepth 100000
set_option maxHeartbeats 4000000
namespace K68
open PySem PySem.Spec PyProof.Rows L2 Evl LK LT LG LS LQ LX LO LN LP LH LV LZ LW StX
def Rc (rows : List (List Int)) : Rel := fun i _ y B => ∃ k, y = .ref k ∧ B k = some (.lst ((rows.getD i []).map V.int))
theorem rc_mon (rows : List (List Int)) : Mon (Rc rows) := fun i xs y H H' e ⟨k, h1, h2⟩ => ⟨k, h1, e _ _ h2⟩
theorem mk_LLs {B : Hp} {xs : List V} {rows : List (List Int)} (hl : xs.length = rows.length) (h : ∀ i y, xs[i]? = some y → Rc rows i (xs.take i) y B) : ∃ ks : List Addr, xs = ks.map V.ref ∧ LLs B ks rows := by
  obtain ⟨ks, rfl⟩ := refs_of (xs := xs) fun y hy => by
    obtain ⟨i, hi⟩ := List.mem_iff_getElem?.mp hy
    obtain ⟨k, rfl, _⟩ := h i y hi
    exact ⟨k, rfl⟩
  refine ⟨ks, rfl, by rw [← hl, List.length_map], fun i k row a b => ?_⟩
  obtain ⟨k', e, hk⟩ := h i (.ref k) (by rw [List.getElem?_map, a]; rfl)
  cases e
  rw [List.getD_eq_getElem?_getD, b] at hk
  exact hk
theorem recs_8 : ∀ (yss : List (List Int)) (r g : Int), ∀ row ∈ recsI yss r g, row.length = 8
  | [], _, _, row, h => by cases h
  | ys :: t, r, g, row, h => by
    rcases List.mem_append.mp (show row ∈ rowsI ys r g ++ recsI t (r + 1) g from h) with h | h
    · obtain ⟨i, hi⟩ := List.mem_iff_getElem?.mp h
      obtain ⟨h1, rfl⟩ := rows_at hi
      exact row_len h1
    · exact recs_8 t (r + 1) g row h
theorem lenR_app (a b : List (List Int)) : lenR (a ++ b) = lenR a + lenR b := by
  have := congrArg List.length (recs_app a b 1 0)
  rwa [List.length_append, recs_len, recs_len, recs_len] at this

/-! ### what a cut leaves of the records -/
theorem due_pred {P : List Int → Prop} : ∀ {ws : List (Nat × List Int)} {f : Nat → List Int}, (∀ s, P (f s)) → (∀ w ∈ ws, P w.2) → ∀ s, P (K68D.due f ws s)
  | [], f, h, _, s => h s
  | w :: r, f, h, hw, s => by
    show P (K68D.due (fset f w.1 w.2) r s)
    refine due_pred (fun x => ?_) (fun v hv => hw v (List.mem_cons_of_mem _ hv)) s
    unfold fset
    split
    · exact hw w List.mem_cons_self
    · exact h x
def wsN (s : Nat) (R : List (List Int)) (i : Nat) : List (Nat × List Int) := (List.range i).map fun j => (s + j, R.getD j [])
theorem wsN_succ (s : Nat) (R : List (List Int)) (i : Nat) : wsN s R (i + 1) = wsN s R i ++ [(s + i, R.getD i [])] := by
  unfold wsN
  rw [List.range_succ, List.map_append]
  rfl
theorem wsN_len (s : Nat) (R : List (List Int)) (i : Nat) : (wsN s R i).length = i := by
  unfold wsN
  rw [List.length_map, List.length_range]
theorem wsN_get {s i j : Nat} {R : List (List Int)} (h : j < i) : (wsN s R i)[j]? = some (s + j, R.getD j []) := by
  unfold wsN
  rw [List.getElem?_map, List.getElem?_range h]
  rfl
theorem aft_wsN {f : Nat → List Int} {s : Nat} {R : List (List Int)} {n : Nat} {c : Nat → Nat} : ∀ i, i ≤ n → ∀ x, K68D.aftN f (wsN s R n) c i x = if s ≤ x ∧ x < s + i then (R.getD (x - s) []).take (c (x - s)) ++ (f x).drop (c (x - s)) else f x
  | 0, _, x => by
    rw [if_neg (by omega)]
    rfl
  | i + 1, h, x => by
    show K68D.stepA (K68D.aftN f (wsN s R n) c i) ((wsN s R n).getD i (0, [])) (c i) x = _
    rw [K68D.getD_in (wsN_get (by omega))]
    unfold K68D.stepA fset
    show (if x = s + i then (R.getD i []).take (c i) ++ (K68D.aftN f (wsN s R n) c i (s + i)).drop (c i) else K68D.aftN f (wsN s R n) c i x) = _
    by_cases e : x = s + i
    · subst e
      rw [if_pos rfl, if_pos (by omega), aft_wsN i (by omega), if_neg (by omega), show s + i - s = i by omega]
    · rw [if_neg e, aft_wsN i (by omega)]
      by_cases h2 : s ≤ x ∧ x < s + i
      · rw [if_pos h2, if_pos (by omega)]
      · rw [if_neg h2, if_neg (by omega)]
def pN (ys : List Int) : Nat := (pI ys.length).toNat
def dueN : List (List Int) → List Int → Nat
  | [], _ => 0
  | ys :: t, cs => if cs.take (pN ys) = List.replicate (pN ys) 8 then dueN t (cs.drop (pN ys)) + 1 else 0
theorem dueN_le : ∀ (b : List (List Int)) (cs : List Int), dueN b cs ≤ b.length
  | [], _ => Nat.le_refl _
  | ys :: t, cs => by
    unfold dueN
    split
    · have := dueN_le t (cs.drop (pN ys))
      rw [List.length_cons]
      omega
    · exact Nat.zero_le _
theorem tear7 {x y : List Int} {c : Nat} (hx : x.length = 8) (hy : y.length = 8) (hc : c ≤ 7) : (x.take c ++ y.drop c).getD 7 0 = y.getD 7 0 := by
  match x, hx, y, hy with
  | [x0, x1, x2, x3, x4, x5, x6, x7], _, [y0, y1, y2, y3, y4, y5, y6, y7], _ =>
    have c8 : c = 0 ∨ c = 1 ∨ c = 2 ∨ c = 3 ∨ c = 4 ∨ c = 5 ∨ c = 6 ∨ c = 7 := by omega
    rcases c8 with rfl | rfl | rfl | rfl | rfl | rfl | rfl | rfl <;> rfl
theorem no_wholej {rows : List (List Int)} {r g : Int} {j : Nat} (hj : (j : Int) < at0 rows 0 2) (h7 : at0 rows j 7 ≠ g) : wholeB rows r g = false := by
  unfold wholeB
  cases hc : allF (at0 rows 0 2).toNat (fun i => decide ((rows.getD i []).take 3 = [r, (i : Int), at0 rows 0 2]) && decide (at0 rows i 7 = g)) with
  | false => rw [Bool.and_false]
  | true =>
    have := allF_iff.mp hc j (by omega)
    rw [decide_eq_false h7, Bool.and_false] at this
    cases this
theorem no_whole0 {rows : List (List Int)} {r g : Int} (h7 : at0 rows 0 7 ≠ g) : wholeB rows r g = false := by
  by_cases hp : 1 ≤ at0 rows 0 2
  · exact no_wholej (j := 0) (by show (0 : Int) < _; omega) h7
  · unfold wholeB
    rw [decide_eq_false hp]
    rfl
theorem recs_8D {b : List (List Int)} {r g : Int} {i : Nat} (h : i < lenR b) : ((recsI b r g).getD i []).length = 8 := by
  rw [List.getD_eq_getElem?_getD, List.getElem?_eq_getElem (by rw [recs_len]; exact h)]
  exact recs_8 b r g _ (List.getElem_mem _)
theorem pN_pos (ys : List Int) : 1 ≤ pN ys := by
  have := pI_pos ys.length
  unfold pN
  omega
theorem torn : ∀ (b : List (List Int)) (r g : Int) (cs : List Nat) (rows : List (List Int)), lenR b ≤ rows.length → cs.length = lenR b → (∀ k ∈ cs, k ≤ 8) →
    (∀ i, i < lenR b → ∃ old : List Int, old.length = 8 ∧ old.getD 7 0 ≠ g ∧ rows.getD i [] = ((recsI b r g).getD i []).take (cs.getD i 0) ++ old.drop (cs.getD i 0)) → (∀ i, lenR b ≤ i → i < rows.length → (rows.getD i []).getD 7 0 ≠ g) →
    ∃ tl, rows = recsI (b.take (dueN b (cs.map fun k : Nat => (k : Int)))) r g ++ tl ∧ (tl ≠ [] → wholeB tl (r + dueN b (cs.map fun k : Nat => (k : Int))) g = false)
  | [], r, g, cs, rows, _, _, _, _, h => ⟨rows, rfl, fun hn => no_whole0 (h 0 (Nat.le_refl _) (List.length_pos_iff.mpr hn))⟩
  | ys :: t, r, g, cs, rows, hl, hc, hk, hin, hout => by
    have hL : lenR (ys :: t) = pN ys + lenR t := rfl
    have hp := pN_pos ys
    have hrl : (rowsI ys r g).length = pN ys := rows_n ys r g
    have hget : ∀ i, i < pN ys → (recsI (ys :: t) r g).getD i [] = rowI ys r g i := fun i hi => by
      show (rowsI ys r g ++ recsI t (r + 1) g).getD i [] = _
      exact app_get (by unfold pN at hi; omega)
    have hdr : ∀ i, (rows.drop (pN ys)).getD i [] = rows.getD (pN ys + i) [] := fun i => by rw [List.getD_eq_getElem?_getD, List.getElem?_drop, ← List.getD_eq_getElem?_getD]
    by_cases hd : (cs.map fun k : Nat => (k : Int)).take (pN ys) = List.replicate (pN ys) 8
    · have hc8 : ∀ i, i < pN ys → cs.getD i 0 = 8 := fun i hi => by
        have h1 := congrArg (fun l => l[i]?) hd
        simp only [List.getElem?_take, if_pos hi, List.getElem?_map, List.getElem?_replicate] at h1
        cases h2 : cs[i]? with
        | none =>
          rw [h2] at h1
          cases h1
        | some k =>
          rw [h2] at h1
          have h3 : (k : Int) = 8 := Option.some.inj h1
          rw [K68D.getD_in h2]
          omega
      have htk : rows.take (pN ys) = rowsI ys r g := by
        refine List.ext_getElem? fun i => ?_
        rw [List.getElem?_take]
        by_cases hi : i < pN ys
        · rw [if_pos hi, rowsI_get (by unfold pN at hi; omega)]
          obtain ⟨old, ho, _, he⟩ := hin i (by omega)
          rw [hc8 i hi, hget i hi, List.take_of_length_le (by rw [row_len (by unfold pN at hi; omega)]; exact Nat.le_refl _), List.drop_eq_nil_of_le (by omega), List.append_nil, List.getD_eq_getElem?_getD, List.getElem?_eq_getElem (by omega)] at he
          rw [List.getElem?_eq_getElem (by omega)]
          exact congrArg some he
        · rw [if_neg hi, List.getElem?_eq_none (by omega)]
      obtain ⟨tl, h1, h2⟩ := torn t (r + 1) g (cs.drop (pN ys)) (rows.drop (pN ys)) (by rw [List.length_drop]; omega) (by rw [List.length_drop]; omega) (fun k hk' => hk k (List.mem_of_mem_drop hk')) (fun i hi => by
        obtain ⟨old, o1, o2, o3⟩ := hin (pN ys + i) (by omega)
        refine ⟨old, o1, o2, ?_⟩
        rw [hdr, o3]
        have e1 : (cs.drop (pN ys)).getD i 0 = cs.getD (pN ys + i) 0 := by rw [List.getD_eq_getElem?_getD, List.getElem?_drop, ← List.getD_eq_getElem?_getD]
        have e2 : (recsI (ys :: t) r g).getD (pN ys + i) [] = (recsI t (r + 1) g).getD i [] := by
          show (rowsI ys r g ++ recsI t (r + 1) g).getD _ [] = _
          rw [List.getD_eq_getElem?_getD, List.getElem?_append_right (by omega), hrl, show pN ys + i - pN ys = i by omega, ← List.getD_eq_getElem?_getD]
        rw [e1, e2]) (fun i hi1 hi2 => by
        rw [hdr]
        rw [List.length_drop] at hi2
        exact hout (pN ys + i) (by omega) (by omega))
      have hdue : dueN (ys :: t) (cs.map fun k : Nat => (k : Int)) = dueN t ((cs.drop (pN ys)).map fun k : Nat => (k : Int)) + 1 := by
        rw [List.map_drop]
        exact if_pos hd
      refine ⟨tl, ?_, fun hn => ?_⟩
      · rw [hdue]
        show rows = (rowsI ys r g ++ recsI (t.take _) (r + 1) g) ++ tl
        rw [List.append_assoc, ← h1, ← htk, List.take_append_drop]
      · rw [hdue, show r + ((dueN t ((cs.drop (pN ys)).map fun k : Nat => (k : Int)) + 1 : Nat) : Int) = r + 1 + (dueN t ((cs.drop (pN ys)).map fun k : Nat => (k : Int)) : Int) by push_cast; omega]
        exact h2 hn
    · have hdue : dueN (ys :: t) (cs.map fun k : Nat => (k : Int)) = 0 := if_neg hd
      rw [hdue]
      refine ⟨rows, rfl, fun _ => ?_⟩
      have h7 : ∀ j, j < pN ys → cs.getD j 0 ≠ 8 → at0 rows j 7 ≠ g := fun j hj h8 => by
        obtain ⟨old, o1, o2, o3⟩ := hin j (by omega)
        unfold at0
        have hm : cs.getD j 0 ≤ 8 := by
          rw [List.getD_eq_getElem?_getD, List.getElem?_eq_getElem (by omega)]
          exact hk _ (List.getElem_mem _)
        rw [o3, tear7 (recs_8D (by omega)) o1 (by omega)]
        exact o2
      by_cases h0 : cs.getD 0 0 = 8
      · obtain ⟨j, hj, hj8⟩ : ∃ j, j < pN ys ∧ cs.getD j 0 ≠ 8 := by
          refine Classical.byContradiction fun hno => hd (List.ext_getElem? fun i => ?_)
          rw [List.getElem?_take]
          by_cases hi : i < pN ys
          · have h8 : cs.getD i 0 = 8 := Classical.byContradiction fun h => hno ⟨i, hi, h⟩
            rw [if_pos hi, List.getElem?_map, List.getElem?_eq_getElem (show i < cs.length by omega), List.getElem?_replicate, if_pos hi]
            rw [List.getD_eq_getElem?_getD, List.getElem?_eq_getElem (show i < cs.length by omega)] at h8
            have h9 : cs[i]'(by omega) = 8 := h8
            rw [h9]
            rfl
          · rw [if_neg hi, List.getElem?_eq_none (by rw [List.length_replicate]; omega)]
        have h2 : at0 rows 0 2 = pI ys.length := by
          obtain ⟨old, o1, o2, o3⟩ := hin 0 (by omega)
          unfold at0
          rw [o3, h0, hget 0 (by omega), List.take_of_length_le (by rw [row_len (by unfold pN at hp; omega)]; exact Nat.le_refl _), List.drop_eq_nil_of_le (by omega), List.append_nil]
          rfl
        exact no_wholej (j := j) (by rw [h2]; unfold pN at hj; omega) (h7 j hj hj8)
      · exact no_whole0 (h7 0 (by omega) h0)
theorem torn_all {f0 f2 : Nat → List Int} {g : Int} {b0 b1 : List (List Int)} {cs : List Nat} (h8 : ∀ s, (f0 s).length = 8) (h7 : ∀ s, (f0 s).getD 7 0 ≠ g) (hn : lenR b0 + lenR b1 ≤ 16) (hc : cs.length = lenR b1) (hk : ∀ k ∈ cs, k ≤ 8)
    (hf2 : f2 = K68D.aftN (K68D.aftN f0 (wsN 4 (recsI b0 1 g) (lenR b0)) (fun _ => 8) (lenR b0)) (wsN (4 + lenR b0) (recsI b1 (1 + b0.length) g) (lenR b1)) (fun j => cs.getD j 0) (lenR b1)) :
    ∃ tl, (List.range 16).map (fun k => f2 (4 + k)) = recsI (b0 ++ b1.take (dueN b1 (cs.map fun k : Nat => (k : Int)))) 1 g ++ tl ∧ (tl ≠ [] → wholeB tl (((b0 ++ b1.take (dueN b1 (cs.map fun k : Nat => (k : Int)))).length : Int) + 1) g = false) := by
  obtain ⟨f1, hf1⟩ : ∃ f1, f1 = K68D.aftN f0 (wsN 4 (recsI b0 1 g) (lenR b0)) (fun _ => 8) (lenR b0) := ⟨_, rfl⟩
  rw [← hf1] at hf2
  have g1 : ∀ x, f1 x = if 4 ≤ x ∧ x < 4 + lenR b0 then ((recsI b0 1 g).getD (x - 4) []) else f0 x := fun x => by
    rw [hf1, aft_wsN _ (Nat.le_refl _)]
    by_cases h : 4 ≤ x ∧ x < 4 + lenR b0
    · rw [if_pos h, if_pos h, List.take_of_length_le (by rw [recs_8D (by omega)]; exact Nat.le_refl _), List.drop_eq_nil_of_le (by rw [h8]; exact Nat.le_refl _), List.append_nil]
    · rw [if_neg h, if_neg h]
  have g2 : ∀ x, f2 x = if 4 + lenR b0 ≤ x ∧ x < 4 + lenR b0 + lenR b1 then ((recsI b1 (1 + b0.length) g).getD (x - (4 + lenR b0)) []).take (cs.getD (x - (4 + lenR b0)) 0) ++ (f1 x).drop (cs.getD (x - (4 + lenR b0)) 0) else f1 x := fun x => by
    rw [hf2, aft_wsN _ (Nat.le_refl _)]
  obtain ⟨rows, hrows⟩ : ∃ rows, rows = (List.range 16).map fun k => f2 (4 + k) := ⟨_, rfl⟩
  have hl : rows.length = 16 := by rw [hrows, List.length_map, List.length_range]
  have hg : ∀ i, i < 16 → rows.getD i [] = f2 (4 + i) := fun i hi => by
    rw [hrows, List.getD_eq_getElem?_getD, List.getElem?_map, List.getElem?_range hi]
    rfl
  have hd : ∀ i, (rows.drop (lenR b0)).getD i [] = rows.getD (lenR b0 + i) [] := fun i => by
    rw [List.getD_eq_getElem?_getD, List.getElem?_drop, ← List.getD_eq_getElem?_getD]
  have ht : rows.take (lenR b0) = recsI b0 1 g := by
    refine List.ext_getElem? fun i => ?_
    rw [List.getElem?_take]
    by_cases hi : i < lenR b0
    · have e1 := hg i (by omega)
      rw [g2, if_neg (by omega), g1, if_pos (by omega), show 4 + i - 4 = i by omega] at e1
      rw [if_pos hi, List.getElem?_eq_getElem (by omega), List.getElem?_eq_getElem (by rw [recs_len]; exact hi)]
      rw [List.getD_eq_getElem?_getD, List.getElem?_eq_getElem (by omega), List.getD_eq_getElem?_getD, List.getElem?_eq_getElem (by rw [recs_len]; exact hi)] at e1
      exact congrArg some e1
    · rw [if_neg hi, List.getElem?_eq_none (by rw [recs_len]; omega)]
  rw [← hrows]
  obtain ⟨tl, h1, h2⟩ := torn b1 (1 + b0.length) g cs (rows.drop (lenR b0)) (by rw [List.length_drop]; omega) hc hk (fun i hi => ⟨f0 (4 + (lenR b0 + i)), h8 _, h7 _, by
    rw [hd, hg _ (by omega), g2, if_pos (by omega), g1, if_neg (by omega), show 4 + (lenR b0 + i) - (4 + lenR b0) = i by omega]⟩) (fun i h3 h4 => by
    rw [List.length_drop] at h4
    rw [hd, hg _ (by omega), g2, if_neg (by omega), g1, if_neg (by omega)]
    exact h7 _)
  refine ⟨tl, ?_, fun hne => ?_⟩
  · rw [recs_app, List.append_assoc, ← h1, ← ht, List.take_append_drop]
  · have := h2 hne
    rw [List.length_append, List.length_take, Nat.min_eq_left (dueN_le _ _)]
    rw [show ((b0.length + dueN b1 (cs.map fun k : Nat => (k : Int)) : Nat) : Int) + 1 = 1 + (b0.length : Int) + (dueN b1 (cs.map fun k : Nat => (k : Int)) : Int) by push_cast; omega]
    exact this
theorem tot_recs : ∀ (yss : List (List Int)) (r g : Int), allR yss r g yss.length = recsI yss r g
  | [], r, g => rfl
  | ys :: t, r, g => by
    have h := tot_recs t (r + 1) g
    unfold allR at h ⊢
    rw [List.length_cons, List.range_succ_eq_map, List.flatMap_cons]
    show rowsI ys (r + ((0 : Nat) : Int)) g ++ _ = rowsI ys r g ++ recsI t (r + 1) g
    rw [← h, show r + ((0 : Nat) : Int) = r by omega, List.flatMap_map]
    congr 2
    funext j
    show rowsI (t.getD j []) (r + ((j + 1 : Nat) : Int)) g = _
    rw [show r + ((j + 1 : Nat) : Int) = r + 1 + (j : Int) by push_cast; omega]
theorem tot_lenR (yss : List (List Int)) : tot yss yss.length = (lenR yss : Int) := by
  rw [← allR_len yss 1 0, tot_recs, recs_len]
theorem row_nn {ys : List Int} {r g : Int} {i : Nat} (hy : ∀ y ∈ ys, 0 ≤ y) (hr : 0 ≤ r) (hg : 0 ≤ g) : ∀ z ∈ rowI ys r g i, 0 ≤ z := fun z hz => by
  unfold rowI at hz
  simp only [List.mem_cons, List.mem_append, List.not_mem_nil, or_false] at hz
  rcases hz with rfl | rfl | rfl | hz | rfl
  · exact hr
  · omega
  · have := pI_pos ys.length
    omega
  · have h1 := List.mem_of_mem_drop (List.mem_of_mem_take hz)
    unfold padI at h1
    rcases List.mem_append.mp h1 with h1 | h1
    · rcases List.mem_cons.mp h1 with rfl | h1
      · omega
      · exact hy z h1
    · have := List.eq_of_mem_replicate h1
      omega
  · exact hg
theorem recs_nn : ∀ {yss : List (List Int)} {r g : Int}, (∀ ys ∈ yss, ∀ y ∈ ys, 0 ≤ y) → 0 ≤ r → 0 ≤ g → ∀ row ∈ recsI yss r g, ∀ z ∈ row, 0 ≤ z
  | [], r, g, _, _, _, row, h => by cases h
  | ys :: t, r, g, hy, hr, hg, row, h => by
    rcases List.mem_append.mp (show row ∈ rowsI ys r g ++ recsI t (r + 1) g from h) with h | h
    · obtain ⟨i, hi⟩ := List.mem_iff_getElem?.mp h
      obtain ⟨_, rfl⟩ := rows_at hi
      exact row_nn (hy ys List.mem_cons_self) hr hg
    · exact recs_nn (fun y' h' => hy y' (List.mem_cons_of_mem _ h')) (by omega) hg row h

end K68

set_option Elab.async false
set_option linter.all false
set_option maxRecDepth 100000
set_option maxHeartbeats 4000000
namespace K68
open PySem PySem.Spec PyProof.Rows L2 Evl LK LT LG LS LQ LX LO LN LP LH LV LZ LW StX K68D
/-! ### the law's own helpers -/
theorem dk_bx {C : Addr} {G H H1 : Hp} {p ka sa wa : Addr} {n : Nat} {d : Dk} {lp CL dl : Addr} {fl : List (Str × V)} (D : DK C G H p ka sa wa n d) (gl : G lp = none) (hl : H lp = some (.ins CL dl fl)) (np : lp ≠ p) (b : Bx lp H H1) : DK C G H1 p ka sa wa n d := by
  obtain ⟨dx, ho⟩ := D.o
  obtain ⟨ks, k1, k2, k3⟩ := D.k
  obtain ⟨ss, s1, s2, s3⟩ := D.s
  obtain ⟨ts, w1, w2, w3⟩ := D.w
  have n1 : ka ≠ lp := ne_of k1 hl (by intro z; cases z)
  have n2 : sa ≠ lp := ne_of s1 hl (by intro z; cases z)
  have n3 : wa ≠ lp := ne_of w1 hl (by intro z; cases z)
  exact ⟨fun a o h => b a o (fun z => by rw [z, gl] at h; cases h) (D.g a o h), D.gp, D.gk, D.gs, D.gw, D.nks, D.nkw, D.nsw, ⟨dx, b _ _ np.symm ho⟩, ⟨ks, b _ _ n1 k1, k2, k3⟩, ⟨ss, b _ _ n2 s1, s2, s3⟩, ⟨ts, b _ _ n3 w1, w2, w3⟩, D.n0, D.n1, D.wl, D.ok, D.kz⟩
theorem St.bx {G H H1 : Hp} {lp : Addr} (b : Bx lp H H1) (h : H1 lp ≠ none) : St G H G H1 := ⟨Ex.refl _, fun _ _ h => h, fun a ha z => by
  by_cases e : a = lp
  · rw [e] at z
    exact h z
  · cases ho : H a with
    | none => exact ha ho
    | some o =>
      rw [b a o e ho] at z
      cases z⟩
theorem St.of {G H H1 : Hp} (e : Ex H H1) : St G H G H1 := ⟨Ex.refl _, fun _ _ h => h, fun a h z => h (fresh_back e z)⟩
theorem ir_ne {row : List Int} {ks : List Addr} (h : row.length = 8) : HO.lst (row.map V.int) ≠ HO.lst (ks.map V.ref) := fun z => by
  match row, h, ks with
  | x :: r, _, [] => cases z
  | x :: r, _, k :: ks => cases z
theorem lg_ne {C CL : Addr} {G H : Hp} {p ka sa wa : Addr} {n : Nat} {d : Dk} {lp : Addr} {g s r : Int} (D : DK C G H p ka sa wa n d) (h : Lg CL H lp g s r) : lp ≠ p ∧ lp ≠ ka ∧ lp ≠ sa ∧ lp ≠ wa := by
  obtain ⟨dx, ho⟩ := D.o
  obtain ⟨ks, k1, k2, k3⟩ := D.k
  obtain ⟨ss, s1, s2, s3⟩ := D.s
  obtain ⟨ts, w1, w2, w3⟩ := D.w
  obtain ⟨dl, hl⟩ := h
  exact ⟨ne_of hl ho (by intro z; cases z), ne_of hl k1 (by intro z; cases z), ne_of hl s1 (by intro z; cases z), ne_of hl w1 (by intro z; cases z)⟩
theorem Ws.keep {H H1 : Hp} {p sa wa : Addr} {C dx : Addr} {fs : List (Str × V)} {ss ts : List Addr} {es : List Addr} {s : Int} {R : List (List Int)} (h : Ws H es s R) (h8 : ∀ row ∈ R, row.length = 8) (hp : H p = some (.ins C dx fs)) (hs : H sa = some (.lst (ss.map V.ref))) (hw : H wa = some (.lst (ts.map V.ref))) (fr : ∀ a o, H a = some o → a ≠ p → a ≠ sa → a ≠ wa → H1 a = some o) : Ws H1 es s R := ⟨h.1, fun j e row a b => by
  obtain ⟨k, h1, h2⟩ := h.2 j e row a b
  have r8 := h8 row (List.mem_of_getElem? b)
  exact ⟨k, fr _ _ h1 (ne_of h1 hp (by intro z; cases z)) (ne_of h1 hs (by intro z; cases z)) (ne_of h1 hw (by intro z; cases z)), fr _ _ h2 (ne_of h2 hp (by intro z; cases z)) (ne_of h2 hs (ir_ne r8)) (ne_of h2 hw (ir_ne r8))⟩⟩
theorem Lg.keep {C CL : Addr} {G H H1 : Hp} {p ka sa wa : Addr} {n : Nat} {d : Dk} {lp : Addr} {g s r : Int} (h : Lg CL H lp g s r) (D : DK C G H p ka sa wa n d) (fr : ∀ a o, H a = some o → a ≠ p → a ≠ sa → a ≠ wa → H1 a = some o) : Lg CL H1 lp g s r := by
  obtain ⟨n1, n2, n3, n4⟩ := lg_ne D h
  obtain ⟨dl, hl⟩ := h
  exact ⟨dl, fr _ _ hl n1 n3 n4⟩
section
variable {K : PySem.W.Frag} {σ : L2.St} {H : Hp} {ta te tl t1 : TE} {tr : TA} {tz : TS} {D : Ends} {sp : Sp} {E : XK} {vs : List V} {C p dx : Addr} {fs : List (Str × V)} {m : Str}
theorem s_forMeth {g : TG} {tb : TS} (ha : Ev ta σ H (.ref p)) (hi : H p = some (.ins C dx fs)) (hl : fs.lookup m = none) (h : EvA tr σ H vs) (k : ∀ H1, Ex H H1 → sp (.ref p :: vs) H1 (fun x H2 => ∃ a, x = V.ref a ∧ (∃ xs, SqL K H2 a xs) ∧ FB K a g tb D σ H2) E) : tFor (iList K (tMeth C m sp [] E ta tr)) g tb D σ H :=
  m_run (Q := fun x H2 => ∃ a, x = V.ref a ∧ (∃ xs, SqL K H2 a xs) ∧ FB K a g tb D σ H2) ha hi hl h k
theorem q_dropCall (h : EvA tr σ H vs) (k : ∀ H1, Ex H H1 → sp vs H1 (fun _ H2 => tz D σ H2) E) : tSeq (tDrop (tCall sp [] E tr)) tz D σ H :=
  h H (Ex.refl _) _ fun H1 e1 => by
    rw [List.append_nil]
    exact k H1 e1
end
def spCho : Sp := fun vs H Q _ => ∃ c : Int, vs = [.int c] ∧ ∀ k : Nat, k ≤ 8 → RetV (.int (k : Int)) H Q
def spLdu : Sp := fun vs H Q _ => ∃ (b c : Addr) (ts : List Addr) (yss : List (List Int)) (cs : List Int), vs = [.ref b, .ref c] ∧ H b = some (.lst (ts.map V.ref)) ∧ TLs H ts yss ∧ H c = some (.lst (cs.map V.int)) ∧ cs.length = lenR yss ∧ lenR yss ≤ 16 ∧ ∀ L H', H L = none → Ex H H' → H' L = some (.lst ((ts.take (dueN yss cs)).map V.ref)) → Q (.ref L) H'
section
variable {P : Program} {w : World} {K : PySem.W.Frag} {mg : Str → Option Value} {base : Heap} {tA : Tok} {aW : Addr} {C CL CN CO CS Pt Pw : Addr}
theorem ok_cho {f fD : Addr} {fd fdD : FuncData} (F : Fun K "_law_choice" "_law_choice" sCho f fd) (FDg : Fun K "_law_digits" "_law_digits" sDg fD fdD) (bDg : Binds K fdD ["cell", "bases"] []) (gDg : mg "_law_digits" = some (.ref fD)) (GDg : FnOk P w K mg base CX0 1 fD fdD ["cell", "bases"] (spDg K)) (T : Txt mg K tA aW) : FnOk P w K mg base CX0 2 f fd ["cell"] spCho := by
  refine F.ok scCho (fun vs H Q E h => ?_) (fun cdv A outer s H vs Q E hr h => ?_)
  · obtain ⟨c, rfl, _⟩ := h
    rfl
  · obtain ⟨c, rfl, q⟩ := h
    refine ⟨_, (pss_cons (ps_set (i := 1) scCho.nd rfl (Or.inl rfl) (pe_call GDg (hr.mono (by decide)) (by rfl) gDg FDg.kp bDg .nil pass0 (pa_cons (pv 0) (pa_cons (pe_lst (pa_cons pe_int (pa_cons pe_int pa_nil))) pa_nil))))
      (pss_cons (ps_if (pt_cmpR op_eq (pe_ix ix_list (pv 1) pe_int (fun _ _ => rfl)) pe_int (nomark _)) (pss_one (ps_ret pe_int)) pss_nil)
      (pss_one (ps_ret (pe_ix ix_list (pv 1) pe_int (fun _ _ => rfl)))))), ?_⟩
    refine q_call2L (ev_var rfl) (el_is (ys := ([2, 9] : List Int).map V.int) (el_lst (ea_cons ev_c (ea_cons ev_c ea_nil)) (by decide)) rfl) fun bl H1 hb1 e1 h1 => ⟨c, bl, [2, 9], rfl, sq_of h1, fun b hb => by
      simp only [List.mem_cons, List.not_mem_nil, or_false] at hb
      rcases hb with rfl | rfl <;> decide, by decide, fun dl H2 ds hd e2 h2 hds => ?_⟩
    obtain ⟨x, y, rfl⟩ : ∃ x y, ds = [x, y] := by
      have := hds.1
      match ds, this with
      | [x, y], _ => exact ⟨x, y, rfl⟩
    have hx := hds.2 0 x 2 rfl rfl
    have hy := hds.2 1 y 9 rfl rfl
    refine q_when (et_test (ev_op (ev_op (ev_var rfl) ev_c (rv_ixL (sq_of h2) (v := .int x) rfl)) ev_c (rv_eq rfl))) (fun _ H3 e3 => s_ret ev_c fun H4 e4 => q 8 (by decide) H4 (((e1.trans e2).trans e3).trans e4)) fun _ H3 e3 => ?_
    obtain ⟨k, rfl⟩ := Int.eq_ofNat_of_zero_le hy.1
    exact s_ret (ev_op (ev_var rfl) ev_c (rv_ixL (sq_of (e3 _ _ h2)) (v := .int (k : Int)) rfl)) fun H4 e4 => q k (by omega) H4 (((e1.trans e2).trans e3).trans e4)
theorem ok_ldu {f : Addr} {fd : FuncData} (F : Fun K "_law_due" "_law_due" sLdu f fd) (T : Txt mg K tA aW) : FnOk P w K mg base CX0 1 f fd ["intents", "choices"] spLdu := by
  refine F.ok scLdu (fun vs H Q E h => ?_) (fun cdv A outer s H vs Q E hr h => ?_)
  · obtain ⟨b, c, ts, yss, cs, rfl, _⟩ := h
    rfl
  · obtain ⟨b, c, ts, yss, cs, rfl, hb, hT, hc, hcl, h16, q⟩ := h
    refine ⟨_, (pss_cons (ps_set (i := 2) scLdu.nd rfl (Or.inl rfl) (pe_lst pa_nil))
      (pss_cons (ps_set (i := 3) scLdu.nd rfl (Or.inl rfl) pe_int)
      (pss_cons (ps_for PassesOwn.never rfl (pi_list (pv 0)) (pg_name (i := 4) scLdu.nd rfl (Or.inl rfl)) (pss_cons (ps_set (i := 5) scLdu.nd rfl (Or.inl rfl) (pe_op op_fdiv (pe_op op_add (pe_callB call_len_seq (by rfl) T.len (by decide +kernel) (pa_cons (pv 4) pa_nil)) pe_int) pe_int))
      (pss_cons (ps_if (pt_cmpR (op_neD hr.units) (pe_slice sl_list (pv 1) (po_some (pv 3)) (po_some (pe_op op_add (pv 3) (pv 5)))) (pe_op op_rep (pe_lst (pa_cons pe_int pa_nil)) (pv 5)) (nomark _)) (pss_one (ps_ret (pv 2))) pss_nil)
      (pss_cons (ps_expr (pe_bm PySem.F.plainAttrs_list PySem.F.slot_list_append PySem.F.type_list_append mt_append (pv 2) (pa_cons (pv 4) pa_nil)))
      (pss_one (ps_set (i := 3) scLdu.nd rfl (Or.inl rfl) (pe_op op_add (pv 3) (pv 5))))))))
      (pss_one (ps_ret (pv 2)))))), ?_⟩
    have hyl := len_le yss
    refine q_asgL (el_lst ea_nil (by decide)) fun dl H1 hd e1 h1 => ?_
    refine q_asg ev_c fun H2 e2 => ?_
    have e12 := e1.trans e2
    refine q_forLn (xs := ts.map V.ref) (ev_var rfl) (sq_of (e12 _ _ hb)) (fun i σ' B => ∃ y4 y5, σ' = [some (.ref b), some (.ref c), some (.ref dl), some (.int (lenR (yss.take i) : Int)), y4, y5] ∧ Ex H B ∧ B dl = some (.lst ((ts.take i).map V.ref)) ∧ dueN yss cs = i + dueN (yss.drop i) (cs.drop (lenR (yss.take i))) ∧ lenR (yss.take i) + lenR (yss.drop i) = lenR yss)
      (fun B eB => ⟨none, none, by rw [List.take_zero]; rfl, e12.trans eB, by rw [List.take_zero]; exact eB _ _ (e2 _ _ h1), by rw [List.take_zero, List.drop_zero]; exact (Nat.zero_add _).symm, by rw [List.take_zero, List.drop_zero]; exact Nat.zero_add _⟩) (fun i σ' B _ pp => by obtain ⟨_, _, _, e, _⟩ := pp; exact sq_of (e _ _ hb)) (fun i x σ' B hx pp => ?_) (fun σ' B pp => ?_)
    · obtain ⟨y4, y5, rfl, eB, hdl, hdu, hsum⟩ := pp
      rw [List.getElem?_map] at hx
      obtain ⟨t, ht, rfl⟩ := Option.map_eq_some_iff.mp hx
      have hi : i < yss.length := by
        have := (List.getElem?_eq_some_iff.mp ht).1
        rw [hT.1] at this
        exact this
      have hy := List.getElem?_eq_getElem hi
      generalize yss[i] = ys at hy
      have htt := hT.2 i t ys ht hy
      have hdr : yss.drop i = ys :: yss.drop (i + 1) := by
        rw [List.drop_eq_getElem_cons hi]
        congr 1
        rw [List.getElem?_eq_getElem hi] at hy
        exact Option.some.inj hy
      have hls := lenR_succ yss i ys hy
      have hpN : (pN ys : Int) = pI ys.length := by
        have := pI_pos ys.length
        unfold pN
        omega
      rw [hdr] at hdu hsum
      have hsum2 : lenR (yss.take i) + (pN ys + lenR (yss.drop (i + 1))) = lenR yss := hsum
      obtain ⟨at', hat⟩ : ∃ at', at' = lenR (yss.take i) := ⟨_, rfl⟩
      rw [← hat] at hdu hsum2 hls ⊢
      refine q_asg (v := .int (pN ys : Int)) (ev_is (ev_op (ev_op (ev_is (ev_lenT (ev_var rfl) (st_of (eB _ _ htt))) (w := .int (ys.length : Int)) (by rw [List.length_map])) ev_c rv_I0) ev_c (rv_I ⟨by decide, by decide⟩)) (by rw [hpN]; rfl)) fun B1 b1 => ?_
      have hc1 := (eB.trans b1) _ _ hc
      refine q_when (b := !decide ((cs.drop at').take (pN ys) = List.replicate (pN ys) 8)) (et_test (ev_opLL (xs := ((cs.drop at').take (pN ys)).map V.int) (ys := (List.replicate (pN ys) (8 : Int)).map V.int) (el_is (el_sl (ev_var rfl) (eo_some (ev_var rfl)) (eo_some (ev_op (ev_var rfl) (ev_var rfl) rv_I0)) (sq_of hc1)) ?_) (el_is (el_rep1 (z := (pN ys : Int)) (el_lst (ea_cons ev_c ea_nil) (by decide)) (ev_var rfl) (by omega) (by omega)) (by rw [List.map_replicate, Int.toNat_natCast])) (fun _ _ _ a1 a2 _ => rv_neW a1 a2))) (fun hb B2 b2 => ?_) (fun hb B2 b2 => ?_)
      · rw [show (at' : Int) + (pN ys : Int) = ((at' + pN ys : Nat) : Int) by push_cast; rfl, cut_mid _ (by omega) (by rw [List.length_map]; omega), show at' + pN ys - at' = pN ys by omega, List.map_take, List.map_drop]
      · have hno : ¬ (cs.drop at').take (pN ys) = List.replicate (pN ys) 8 := by simpa using hb
        have h0 : dueN (ys :: yss.drop (i + 1)) (cs.drop at') = 0 := if_neg hno
        rw [h0, Nat.add_zero] at hdu
        refine s_ret (ev_var rfl) fun B3 b3 => q dl B3 hd ((eB.trans b1).trans (b2.trans b3)) ?_
        rw [hdu]
        exact b3 _ _ (b2 _ _ (b1 _ _ hdl))
      · have hyes : (cs.drop at').take (pN ys) = List.replicate (pN ys) 8 := by simpa using hb
        have h0 : dueN (ys :: yss.drop (i + 1)) (cs.drop at') = dueN (yss.drop (i + 1)) ((cs.drop at').drop (pN ys)) + 1 := if_pos hyes
        rw [h0, List.drop_drop] at hdu
        refine q_app (v := .ref t) (b2 _ _ (b1 _ _ hdl)) (ev_var rfl) (ev_var rfl) (by rw [List.length_map, List.length_take]; omega) fun B3 b3 => ?_
        refine s_asg (v := .int (lenR (yss.take (i + 1)) : Int)) (ev_is (ev_op (ev_var rfl) (ev_var rfl) rv_I0) (congrArg V.int (by rw [hls]; unfold pN; push_cast; rfl))) fun B4 b4 => ⟨_, _, rfl, ((((eB.trans b1).trans b2).trans b3).mut hd).trans b4, by rw [b4 _ _ upd_same, List.take_add_one, ht, List.map_append]; rfl, ?_, ?_⟩
        · rw [hls, hdu]
          show _ = i + 1 + dueN (yss.drop (i + 1)) (cs.drop (at' + pN ys))
          omega
        · rw [hls]
          show at' + pN ys + _ = _
          omega
    · obtain ⟨y4, y5, rfl, eB, hdl, hdu, hsum⟩ := pp
      rw [List.length_map, hT.1] at *
      refine s_ret (ev_var rfl) fun B3 b3 => q dl B3 hd (eB.trans b3) ?_
      rw [List.drop_length] at hdu
      rw [hdu]
      exact b3 _ _ hdl
end

end K68

set_option Elab.async false
set_option linter.all false
set_option maxRecDepth 100000
set_option maxHeartbeats 4000000
namespace K68
open PySem PySem.Spec PyProof.Rows L2 Evl LK LT LG LS LQ LX LO LN LP LH LV LZ LW StX K68D
def spAp (C CL Pt Pw : Addr) : Sp := fun vs H Q _ => ∃ G p ka sa wa d lp g r b yss, ∃ s : Nat, vs = [.ref p, .ref lp, .ref b] ∧ DK C G H p ka sa wa 96 d ∧ G lp = none ∧ Lg CL H lp g (s : Int) r ∧ TL H b yss ∧ Few yss ∧ Tab H Pt ∧ Tab G Pw ∧ d.pw = true ∧ d.bf = none ∧ d.ws = [] ∧ s + lenR yss ≤ 20 ∧ 0 ≤ r ∧ 0 ≤ g ∧ (∀ ys ∈ yss, ∀ y ∈ ys, 0 ≤ y) ∧
  ∀ G' H1, St G H G' H1 → G' lp = none → Lg CL H1 lp g ((s + lenR yss : Nat) : Int) (r + yss.length) → DK C G' H1 p ka sa wa 96 ⟨d.kept, wsN s (recsI yss r g) (lenR yss), true, none⟩ → Q .non H1
def spOld (C Pw : Addr) : Sp := fun vs H Q _ => ∃ G p ka sa wa d c g, vs = [.ref p, .int c, .int g] ∧ DK C G H p ka sa wa 96 d ∧ d.kept = (fun _ => Z8) ∧ d.ws = [] ∧ d.pw = true ∧ d.bf = none ∧ 0 ≤ g ∧ Tab G Pw ∧
  ∀ G' H1 sa' wa' f, St G H G' H1 → (∀ s, (f s).getD 7 0 = 0 ∨ (f s).getD 7 0 = g) → DK C G' H1 p ka sa' wa' 96 ⟨f, [], true, none⟩ → Q .non H1
theorem aft_due {f : Nat → List Int} {ws : List (Nat × List Int)} (hf : ∀ s, (f s).length = 8) (hw : ∀ w ∈ ws, w.2.length = 8) : ∀ i, i ≤ ws.length → aftN f ws (fun _ => 8) i = due f (ws.take i)
  | 0, _ => rfl
  | i + 1, h => by
    have hi : i < ws.length := by omega
    have hwi := List.getElem?_eq_getElem hi
    have e : ws.take (i + 1) = ws.take i ++ [ws[i]] := by rw [List.take_add_one, hwi]; rfl
    rw [e, due_snoc]
    show stepA (aftN f ws (fun _ => 8) i) (ws.getD i (0, [])) 8 = _
    rw [aft_due hf hw i (by omega), getD_in hwi]
    have h8 := hw _ (List.getElem_mem hi)
    have hd := due_len hf (ws := ws.take i) (fun w hm => hw w (List.mem_of_mem_take hm)) (ws[i]).1
    unfold stepA
    rw [List.take_of_length_le (l := (ws[i]).2) (by omega), List.drop_eq_nil_of_le (by omega), List.append_nil]

section
variable {P : Program} {w : World} {K : PySem.W.Frag} {mg : Str → Option Value} {base : Heap} {tA : Tok} {aW : Addr} {C CL CN CO CS Pt Pw : Addr}
theorem ok_ap {f fA fW : Addr} {fd fdA fdW : FuncData} (F : Fun K "_law_appended" "_law_appended" sAp f fd) (Gappend : FnOk P w K mg base (L2.CX P w) 6 fA fdA ["self", "intents"] (spApp CL CS Pt)) (bappend : Binds K fdA ["self", "intents"] []) (mappend : Meth K CL "append_records" fA)
    (Gwrite : FnOk P w K mg base (L2.CX P w) 3 fW fdW ["self", "sector", "words"] (spWrite C CN CO Pw)) (bwrite : Binds K fdW ["self", "sector", "words"] []) (mwrite : Meth K C "write" fW) (T : Txt mg K tA aW) (TD : K68D.Txt mg K C) (TL : TxL mg K CL) : FnOk P w K mg base CX0 7 f fd ["disk", "log", "intents"] (spAp C CL Pt Pw) := by
  refine F.ok scAp (fun vs H Q E h => ?_) (fun cdv A outer s H vs Q E hr h => ?_)
  · obtain ⟨G, p, ka, sa, wa, d, lp, g, r, b, yss, s, rfl, _⟩ := h
    rfl
  · obtain ⟨G, p, ka, sa, wa, d, lp, g, r, b, yss, s0, rfl, D, gl, hLg, hTL, hf, hPt, hPw, pw, bf, ws, hfit, r0, g0, hnn, q⟩ := h
    obtain ⟨dx, ho⟩ := D.o
    obtain ⟨nlp, nlk, nls, nlw⟩ := lg_ne D hLg
    obtain ⟨dl, hlo⟩ := hLg
    refine ⟨_, (pss_one (ps_for PassesOwn.never rfl (pi_list (pe_meth (pv 1) TL.cl mappend Gappend (hr.mono (by decide)) bappend .nil passL (pa_cons (pv 2) pa_nil))) (pg_tup (by rfl) (pgs_cons (pg_name (i := 3) scAp.nd rfl (Or.inl rfl)) (pgs_cons (pg_name (i := 4) scAp.nd rfl (Or.inl rfl)) pgs_nil))) (pss_one (ps_expr (pe_meth (pv 0) TD.cl mwrite Gwrite (hr.mono (by decide)) bwrite .nil passL (pa_cons (pv 3) (pa_cons (pv 4) pa_nil))))))), ?_⟩
    refine s_forMeth (ev_var rfl) hlo (fl_no _ _ _ ⟨by decide +kernel, by decide +kernel, by decide +kernel⟩) (ea_cons (ev_var rfl) ea_nil) fun H1 e1 => ⟨lp, g, (s0 : Int), r, b, yss, rfl, ⟨dl, e1 _ _ hlo⟩, hTL.ex e1, hf, hPt.mono e1, fun hn => absurd (by rw [tot_lenR]; omega) hn, fun _ wl H2 hwl b2 hL2 hW2 => ?_⟩
    rw [tot_recs] at hW2
    rw [tot_lenR] at hL2
    have D1 := D.ex e1
    have D2 := dk_bx D1 gl (e1 _ _ hlo) nlp b2
    obtain ⟨ap1, ak1, as1, aw1⟩ := D1.al
    have nws : wl ≠ sa := fun z => as1 (by rw [← z]; exact hwl)
    have nww : wl ≠ wa := fun z => aw1 (by rw [← z]; exact hwl)
    have nwp : wl ≠ p := fun z => ap1 (by rw [← z]; exact hwl)
    have hl2 : H2 lp ≠ none := by
      obtain ⟨_, hx⟩ := hL2
      rw [hx]
      exact fun z => by cases z
    have S2 : St G H G H2 := (St.of e1).trans (St.bx b2 hl2)
    obtain ⟨es, hes, hWs⟩ := hW2
    have h8 := recs_8 yss r g
    have hRn := recs_nn hnn r0 g0
    have hRl := recs_len yss r g
    obtain ⟨R, hR⟩ : ∃ R, R = recsI yss r g := ⟨_, rfl⟩
    rw [← hR] at h8 hRn hWs hRl
    refine ⟨wl, rfl, ⟨_, sq_of hes⟩, for_list (xs := es.map V.ref) (fun i σ' B => ∃ G1 d1 y3 y4, σ' = [some (.ref p), some (.ref lp), some (.ref b), y3, y4] ∧ DK C G1 B p ka sa wa 96 d1 ∧ St G H G1 B ∧ G1 lp = none ∧ d1.kept = d.kept ∧ d1.pw = true ∧ d1.bf = none ∧ d1.ws = wsN s0 R i ∧ Ws B es s0 R ∧ B wl = some (.lst (es.map V.ref)) ∧ Lg CL B lp g ((s0 : Int) + lenR yss) (r + yss.length)) ⟨G, d, none, none, rfl, D2, S2, gl, rfl, pw, bf, ws, hWs, hes, hL2⟩ (fun i σ' B _ pp => ?_) (fun i x σ' B hx pp => ?_) (fun σ' B pp => ?_)⟩
    · obtain ⟨_, _, _, _, _, _, _, _, _, _, _, _, _, hw, _⟩ := pp
      exact sq_of hw
    · obtain ⟨G1, d1, y3, y4, rfl, DD, SS, gl1, kp, pw1, bf1, ws1, hWB, hwB, hLB⟩ := pp
      rw [List.getElem?_map] at hx
      obtain ⟨e, he, rfl⟩ := Option.map_eq_some_iff.mp hx
      have hi : i < R.length := by
        have := (List.getElem?_eq_some_iff.mp he).1
        rw [hWB.1] at this
        exact this
      have hrow := List.getElem?_eq_getElem hi
      generalize R[i] = row at hrow
      obtain ⟨k, t1, t2⟩ := hWB.2 i e row he hrow
      have r8 := h8 row (List.mem_of_getElem? hrow)
      have rn := hRn row (List.mem_of_getElem? hrow)
      refine ⟨e, [.int ((s0 : Int) + i), .ref k], rfl, st_of t1, rfl, _, [_], rfl, _, [], rfl, rfl, ?_⟩
      obtain ⟨dx1, ho1⟩ := DD.o
      obtain ⟨ss, hs1, _⟩ := DD.s
      obtain ⟨tw, hw1, _⟩ := DD.w
      refine s_m (ev_var rfl) ho1 (d_no ⟨by decide +kernel, by decide +kernel, by decide +kernel, by decide +kernel, by decide +kernel, by decide +kernel⟩) (ea_cons (ev_var rfl) (ea_cons (ev_var rfl) ea_nil)) fun H3 e3 => ⟨G1, p, ka, sa, wa, 96, d1, (s0 : Int) + i, k, row.map V.int, rfl, DD.ex e3, e3 _ _ t2, kd_ints _, hPw.mono SS.g, by rw [ws1, wsN_len]; omega, ne_of t2 ho1 (by intro z; cases z), fun hno => absurd ⟨⟨by omega, by omega⟩, by rw [List.length_map]; exact r8, ints_wd rn⟩ hno, fun _ s' ns hs' hs4 hns h8' hnn' G2 H4 S4 fr4 D4 => ?_, fun hno _ => absurd ⟨pw1, by rw [bf1]; exact fun z => by cases z⟩ hno⟩
      obtain rfl : s' = s0 + i := by omega
      obtain rfl := ints_inj hns
      have fr : ∀ a o, B a = some o → a ≠ p → a ≠ sa → a ≠ wa → H4 a = some o := fun a o h n1 n2 n3 => fr4 a o (e3 _ _ h) n1 n2 n3
      have S3 := SS.trans ((St.of (G := G1) e3).trans S4)
      refine ⟨G2, _, _, _, rfl, D4, S3, ?_, kp, pw1, by show d1.bf.map _ = none; rw [bf1]; rfl, ?_, hWB.keep h8 ho1 hs1 hw1 fr, fr _ _ hwB nwp nws nww, hLB.keep DD fr⟩
      · exact S3.n lp (by rw [hlo]; exact fun z => by cases z) gl
      · show d1.ws ++ [(s0 + i, row)] = wsN s0 R (i + 1)
        rw [ws1, wsN_succ, List.getD_eq_getElem?_getD, hrow]
        rfl
    · obtain ⟨G1, d1, y3, y4, rfl, DD, SS, gl1, kp, pw1, bf1, ws1, hWB, hwB, hLB⟩ := pp
      rw [List.length_map, hWB.1, hRl] at ws1
      have ed : d1 = ⟨d.kept, wsN s0 (recsI yss r g) (lenR yss), true, none⟩ := by
        cases d1
        simp only at kp pw1 bf1 ws1
        rw [kp, pw1, bf1, ws1, hR]
      rw [ed] at DD
      exact q G1 B SS gl1 (by push_cast; exact hLB) DD
theorem ok_old {f fI fR fW fF : Addr} {fd fdI fdR fdW fdF : FuncData} (F : Fun K "_law_old_log" "_law_old_log" sOld f fd) (FIn : Fun K "_law_intent" "_law_intent" sIn fI fdI) (GIn : FnOk P w K mg base CX0 2 fI fdI ["cell", "most"] spIn) (bIn : Binds K fdI ["cell", "most"] []) (gIn : mg "_law_intent" = some (.ref fI))
    (FRs : Fun K "record_sectors" "record_sectors" sRs fR fdR) (GRs : FnOk P w K mg base CX0 3 fR fdR ["intent", "record", "generation"] (spRs K)) (bRs : Binds K fdR ["intent", "record", "generation"] []) (gRs : mg "record_sectors" = some (.ref fR))
    (Gwrite : FnOk P w K mg base (L2.CX P w) 3 fW fdW ["self", "sector", "words"] (spWrite C CN CO Pw)) (bwrite : Binds K fdW ["self", "sector", "words"] []) (mwrite : Meth K C "write" fW) (Gflush : FnOk P w K mg base (L2.CX P w) 2 fF fdF ["self"] (spFlush C CO)) (bflush : Binds K fdF ["self"] []) (mflush : Meth K C "flush" fF) (T : Txt mg K tA aW) (TD : K68D.Txt mg K C) : FnOk P w K mg base CX0 4 f fd ["disk", "cell", "generation"] (spOld C Pw) := by
  refine F.ok scOld (fun vs H Q E h => ?_) (fun cdv A outer s H vs Q E hr h => ?_)
  · obtain ⟨G, p, ka, sa, wa, d, c, g, rfl, _⟩ := h
    rfl
  · obtain ⟨G, p, ka, sa, wa, d, c, g, rfl, D, kp, ws, pw, bf, g0, hPw, q⟩ := h
    refine ⟨_, (pss_cons (ps_set (i := 3) scOld.nd rfl (Or.inl rfl) pe_int)
      (pss_cons (ps_set (i := 4) scOld.nd rfl (Or.inl rfl) pe_int)
      (pss_cons (ps_for PassesOwn.never rfl (pi_range1 (by rfl) T.range (pa_cons pe_int pa_nil)) (pg_name (i := 5) scOld.nd rfl (Or.inl rfl)) (pss_cons (ps_set (i := 6) scOld.nd rfl (Or.inl rfl) (pe_call GIn (hr.mono (by decide)) (by rfl) gIn FIn.kp bIn .nil pass0 (pa_cons (pe_op op_add (pv 1) (pe_op op_mul pe_int (pv 5))) (pa_cons pe_int pa_nil))))
      (pss_cons (ps_set (i := 7) scOld.nd rfl (Or.inl rfl) (pe_call GRs (hr.mono (by decide)) (by rfl) gRs FRs.kp bRs .nil pass0 (pa_cons (pv 6) (pa_cons (pv 4) (pa_cons (pv 2) pa_nil)))))
      (pss_one (ps_if (pt_cmpR op_le (pe_op op_add (pv 3) (pe_callB call_len_seq (by rfl) T.len (by decide +kernel) (pa_cons (pv 7) pa_nil))) pe_int (nomark _)) (pss_cons (ps_for PassesOwn.never rfl (pi_list (pv 7)) (pg_name (i := 8) scOld.nd rfl (Or.inl rfl)) (pss_cons (ps_expr (pe_meth (pv 0) TD.cl mwrite Gwrite (hr.mono (by decide)) bwrite .nil passL (pa_cons (pv 3) (pa_cons (pv 8) pa_nil))))
      (pss_one (ps_set (i := 3) scOld.nd rfl (Or.inl rfl) (pe_op op_add (pv 3) pe_int)))))
      (pss_one (ps_set (i := 4) scOld.nd rfl (Or.inl rfl) (pe_op op_add (pv 4) pe_int)))) pss_nil)))))
      (pss_one (ps_expr (pe_meth0 (pv 0) TD.cl mflush Gflush (hr.mono (by decide)) bflush .nil passL)))))), ?_⟩
    have dno : ∀ {n : Nat} {ka sa wa : Addr} {pw : Bool} {bf : Option Nat} {m : Str}, m = "write" ∨ m = "flush" → (dfl n ka sa wa pw bf).lookup m = Option.none := fun h => by
      rcases h with rfl | rfl <;> exact d_no ⟨by decide +kernel, by decide +kernel, by decide +kernel, by decide +kernel, by decide +kernel, by decide +kernel⟩
    refine q_asg ev_c fun H1 e1 => ?_
    refine q_asg ev_c fun H2 e2 => ?_
    refine q_forR1 (n := 8) (ea_cons ev_c ea_nil) ⟨by decide, by decide⟩ (fun i σ' B => ∃ G1 d1 r y5 y6 y7 y8, σ' = [some (.ref p), some (.int c), some (.int g), some (.int ((4 + d1.ws.length : Nat) : Int)), some (.int r), y5, y6, y7, y8] ∧ DK C G1 B p ka sa wa 96 d1 ∧ St G H G1 B ∧ d1.kept = (fun _ => Z8) ∧ d1.pw = true ∧ d1.bf = none ∧ d1.ws.length ≤ 16 ∧ 1 ≤ r ∧ ∀ w ∈ d1.ws, w.2.getD 7 0 = g) (fun B eB => ⟨G, d, 1, none, none, none, none, by rw [ws]; rfl, D.ex ((e1.trans e2).trans eB), St.of ((e1.trans e2).trans eB), kp, pw, bf, by rw [ws]; decide, by decide, fun w hw => by rw [ws] at hw; cases hw⟩) ?_ ?_
    · rintro i σ' B hi ⟨G1, d1, r, y5, y6, y7, y8, rfl, D1, S1, kp1, pw1, bf1, wl1, hr1, h71⟩
      refine q_run (vs := [.int (c + 7919 * (i : Int)), .int 9]) (ea_cons (ev_op (ev_var rfl) (ev_op ev_c (ev_var rfl) (rv_I (.inl ⟨by decide, by decide⟩))) rv_I0) (ea_cons ev_c ea_nil)) fun B1 b1 => ⟨_, 9, rfl, by decide, by decide, fun ip B2 ys hip b2 h2 hI => ?_⟩
      have hl90 := hI.len (by decide)
      refine q_run (vs := [.ref ip, .int r, .int g]) (ea_cons (ev_var rfl) (ea_cons (ev_var rfl) (ea_cons (ev_var rfl) ea_nil))) fun B3 b3 => ⟨ip, ys, r, g, rfl, st_of (b3 _ _ h2), by omega, fun rl B4 hrl b4 hLL => ?_⟩
      obtain ⟨rks, hrk, hkl, hkr⟩ := hLL
      have hrn := rows_len ys r g
      have hrN := rows_n ys r g
      have b14 := ((b1.trans b2).trans b3).trans b4
      refine s_when (b := decide ((((4 + d1.ws.length : Nat) : Int) + (rks.length : Int)) ≤ 20)) (et_is (et_test (ev_op (ev_op (ev_var rfl) (ev_is (ev_lenL (ev_var rfl) hrk) (w := .int (rks.length : Int)) (by rw [List.length_map])) rv_I0) ev_c rv_I0)) rfl) (fun hb B5 b5 => ?_) (fun hb B5 b5 => ⟨G1, d1, r, _, _, _, _, rfl, D1.ex (b14.trans b5), S1.trans (St.of (b14.trans b5)), kp1, pw1, bf1, wl1, hr1, h71⟩)
      have hfit : 4 + d1.ws.length + rks.length ≤ 20 := by
        have := of_decide_eq_true hb
        omega
      have b15 := b14.trans b5
      obtain ⟨G2, S2, D2, new⟩ := D1.join b15
      have rl0 : B rl = none := fresh_back ((b1.trans b2).trans b3) hrl
      have grl := new _ _ rl0 (b5 _ _ hrk)
      have S12 := S1.trans S2
      have hks : ∀ (j : Nat) (k : Addr) (row : List Int), rks[j]? = some k → (rowsI ys r g)[j]? = some row → B5 k = some (.lst (row.map V.int)) := fun j k row x y => b5 _ _ (hkr j k row x y)
      refine q_forLn (xs := rks.map V.ref) (ev_var rfl) (sq_of (b5 _ _ hrk)) (fun j σ2 B6 => ∃ G3 d3 y8, σ2 = [some (.ref p), some (.int c), some (.int g), some (.int ((4 + d3.ws.length : Nat) : Int)), some (.int r), some (.int (i : Int)), some (.ref ip), some (.ref rl), y8] ∧ DK C G3 B6 p ka sa wa 96 d3 ∧ St G2 B5 G3 B6 ∧ d3.kept = (fun _ => Z8) ∧ d3.pw = true ∧ d3.bf = none ∧ d3.ws.length = d1.ws.length + j ∧ (∀ w ∈ d3.ws, w.2.getD 7 0 = g) ∧ ∀ (j : Nat) (k : Addr) (row : List Int), rks[j]? = some k → (rowsI ys r g)[j]? = some row → B6 k = some (.lst (row.map V.int))) (fun B6 b6 => ⟨G2, d1, _, rfl, D2.ex b6, St.of b6, kp1, pw1, bf1, rfl, h71, fun j k row x y => b6 _ _ (hks j k row x y)⟩) (fun j σ2 B6 _ pp => by
        obtain ⟨G3, d3, _, _, D3, S3, _⟩ := pp
        exact sq_of (D3.g _ _ (S3.g _ _ grl))) (fun j x σ2 B6 hx pp => ?_) (fun σ2 B6 pp => ?_)
      · obtain ⟨G3, d3, y8', rfl, D3, S3, kp3, pw3, bf3, wl3, h73, hk3⟩ := pp
        rw [List.getElem?_map] at hx
        obtain ⟨k, hk, rfl⟩ := Option.map_eq_some_iff.mp hx
        have hj := (List.getElem?_eq_some_iff.mp hk).1
        have hrow := List.getElem?_eq_getElem (show j < (rowsI ys r g).length by omega)
        generalize (rowsI ys r g)[j] = row at hrow
        have hkrow := hk3 j k row hk hrow
        obtain ⟨hjp, hre⟩ := rows_at hrow
        have r8 : row.length = 8 := by rw [hre]; exact row_len hjp
        have r7 : row.getD 7 0 = g := by rw [hre]; exact row_7 hjp
        have rn : ∀ z ∈ row, 0 ≤ z := by rw [hre]; exact row_nn (hI.nn) (by omega) g0
        obtain ⟨dx3, ho3⟩ := D3.o
        obtain ⟨ss, hs1, _⟩ := D3.s
        obtain ⟨tw, hw1, _⟩ := D3.w
        refine q_m (ev_var rfl) ho3 (dno (.inl rfl)) (ea_cons (ev_var rfl) (ea_cons (ev_var rfl) ea_nil)) fun B7 b7 => ⟨G3, p, ka, sa, wa, 96, d3, ((4 + d3.ws.length : Nat) : Int), k, row.map V.int, rfl, D3.ex b7, b7 _ _ hkrow, kd_ints _, hPw.mono ((S12.trans S3).g), by omega, ne_of hkrow ho3 (by intro z; cases z), fun hno => absurd ⟨⟨by omega, by omega⟩, by rw [List.length_map]; exact r8, ints_wd rn⟩ hno, fun _ s' ns hs' hs4 hns h8' hnn' G4 B8 S4 fr4 D4 => ?_, fun hno _ => absurd ⟨pw3, by rw [bf3]; exact fun z => by cases z⟩ hno⟩
        obtain rfl : s' = 4 + d3.ws.length := by omega
        obtain rfl := ints_inj hns
        refine s_asg (v := .int ((4 + (d3.ws.length + 1) : Nat) : Int)) (ev_is (ev_op (ev_var rfl) ev_c rv_I0) (congrArg V.int (by push_cast; omega))) fun B9 b9 => ⟨G4, _, some (.ref k), ?_, D4.ex b9, S3.trans (((St.of (G := G3) b7).trans S4).trans (St.of b9)), kp3, pw3, by show d3.bf.map _ = none; rw [bf3]; rfl, ?_, fun w hw => ?_, fun j' k' row' x y => ?_⟩
        · show _ = [_, _, _, some (V.int ((4 + (d3.ws ++ [(4 + d3.ws.length, row)]).length : Nat) : Int)), _, _, _, _, _]
          rw [List.length_append]
          rfl
        · show (d3.ws ++ [(4 + d3.ws.length, row)]).length = _
          rw [List.length_append, wl3]
          rfl
        · rcases List.mem_append.mp (show w ∈ d3.ws ++ [(4 + d3.ws.length, row)] from hw) with h | h
          · exact h73 w h
          · rw [List.mem_singleton.mp h]
            exact r7
        · have hx := hk3 j' k' row' x y
          have r8' : row'.length = 8 := by
            obtain ⟨q1, q2⟩ := rows_at y
            rw [q2]
            exact row_len q1
          exact b9 _ _ (fr4 _ _ (b7 _ _ hx) (ne_of hx ho3 (by intro z; cases z)) (ne_of hx hs1 (ir_ne r8')) (ne_of hx hw1 (ir_ne r8')))
      · obtain ⟨G3, d3, y8', rfl, D3, S3, kp3, pw3, bf3, wl3, h73, hk3⟩ := pp
        rw [List.length_map] at wl3
        exact s_asg (ev_op (ev_var rfl) ev_c rv_I0) fun B7 b7 => ⟨G3, d3, r + 1, _, _, _, _, rfl, D3.ex b7, (S12.trans S3).trans (St.of b7), kp3, pw3, bf3, by omega, by omega, h73⟩
    · rintro σ' B ⟨G1, d1, r, y5, y6, y7, y8, rfl, D1, S1, kp1, pw1, bf1, wl1, hr1, h71⟩
      obtain ⟨dx1, ho1⟩ := D1.o
      refine s_m (ev_var rfl) ho1 (dno (.inr rfl)) ea_nil fun B1 b1 => ⟨G1, p, ka, sa, wa, 96, d1, rfl, D1.ex b1, fun hon G2 B2 sa2 wa2 S2 fr2 D2 => ?_, fun hno => absurd ⟨pw1, by rw [bf1]; exact fun z => by cases z⟩ hno⟩
      have hK : aftN d1.kept d1.ws (fun _ => 8) d1.ws.length = due d1.kept d1.ws := by
        rw [aft_due D1.kz (fun w hw => (D1.ok w hw).2) _ (Nat.le_refl _), List.take_length]
      rw [hK, pw1, show d1.bf.map (· - 1) = none by rw [bf1]; rfl] at D2
      exact q G2 B2 sa2 wa2 _ ((S1.trans (St.of b1)).trans S2) (due_pred (P := fun l => l.getD 7 0 = 0 ∨ l.getD 7 0 = g) (fun s => by rw [kp1]; exact .inl rfl) fun w hw => .inr (h71 w hw)) D2
end

end K68

set_option Elab.async false
set_option linter.all false
set_option maxRecDepth 100000
set_option maxHeartbeats 4000000
namespace K68
open PySem PySem.Spec PyProof.Rows L2 Evl LK LT LG LS LQ LX LO LN LP LH LV LZ LW StX K68D
/-! ### the law -/
theorem dpa_TL {K : PySem.W.Frag} {H : Hp} : ∀ {ts : List Addr} {yss : List (List Int)}, TLs H ts yss → DpAll K H (ts.map V.ref) (yss.map fun r => PyData.tuple (r.map PyData.int))
  | [], [], _ => .nil
  | [], _ :: _, h => by have := h.1; simp at this
  | _ :: _, [], h => by have := h.1; simp at this
  | t :: ts, r :: yss, h => .cons (.tup (st_of (h.2 0 t r rfl rfl)) (dp_ints r)) (dpa_TL ⟨by simpa using h.1, fun i t' r' a b => h.2 (i + 1) t' r' a b⟩)
def dT (yss : List (List Int)) : PyData := .list (yss.map fun r => .tuple (r.map PyData.int))
theorem sh_dT (yss : List (List Int)) : Sh 2 (dT yss) := sh_lst fun d hd => by
  obtain ⟨r, _, rfl⟩ := List.mem_map.mp hd
  exact sh_tup (sh_ints r)
theorem TLs.take {H : Hp} {ts : List Addr} {yss : List (List Int)} (h : TLs H ts yss) (n : Nat) : TLs H (ts.take n) (yss.take n) := by
  refine ⟨by rw [List.length_take, List.length_take, h.1], fun i t ys a b => ?_⟩
  rw [List.getElem?_take] at a b
  by_cases hi : i < n
  · rw [if_pos hi] at a b
    exact h.2 i t ys a b
  · rw [if_neg hi] at a
    cases a
theorem TLs.app {H : Hp} {ks ls : List Addr} {a b : List (List Int)} (h1 : TLs H ks a) (h2 : TLs H ls b) : TLs H (ks ++ ls) (a ++ b) := by
  refine ⟨by rw [List.length_append, List.length_append, h1.1, h2.1], fun i k row x y => ?_⟩
  by_cases hi : i < ks.length
  · rw [List.getElem?_append_left hi] at x
    rw [List.getElem?_append_left (by rw [← h1.1]; exact hi)] at y
    exact h1.2 i k row x y
  · rw [List.getElem?_append_right (by omega)] at x
    rw [List.getElem?_append_right (by rw [← h1.1]; omega), ← h1.1] at y
    exact h2.2 _ k row x y
def GoodI (ys : List Int) : Prop := chkB ys = true ∧ ys.length ≤ 90 ∧ ∀ y ∈ ys, 0 ≤ y
def Ch8 : Rel := fun _ _ y _ => ∃ k : Nat, y = .int (k : Int) ∧ k ≤ 8
theorem ch8_mon : Mon Ch8 := fun i xs y H H' e h => h
theorem ch8_nats : ∀ {xs : List V}, (∀ y ∈ xs, ∃ k : Nat, y = .int (k : Int) ∧ k ≤ 8) → ∃ cs : List Nat, xs = cs.map nV ∧ ∀ k ∈ cs, k ≤ 8
  | [], _ => ⟨[], rfl, fun z hz => absurd hz List.not_mem_nil⟩
  | x :: r, h => by
    obtain ⟨cs, e, hc⟩ := ch8_nats (xs := r) fun y hy => h y (List.mem_cons_of_mem _ hy)
    obtain ⟨k, rfl, hk⟩ := h x List.mem_cons_self
    exact ⟨k :: cs, by rw [e]; rfl, fun z hz => by
      rcases List.mem_cons.mp hz with rfl | h
      · exact hk
      · exact hc z h⟩
theorem pick68 {z : Int} (h0 : 0 ≤ z) (h : z < 4) : ∃ m : Int, (1 ≤ m ∧ m ≤ 64) ∧ atI (([9, 9, 9, 59] : List Int).map V.int) z = some (.int m) := by
  obtain ⟨k, rfl⟩ : ∃ k : Nat, z = k := ⟨z.toNat, by omega⟩
  refine ⟨([9, 9, 9, 59] : List Int).getD k 0, ?_, at_get (by show k < 4; omega)⟩
  rcases (by omega : k = 0 ∨ k = 1 ∨ k = 2 ∨ k = 3) with rfl | rfl | rfl | rfl <;> decide
section
variable {K : PySem.W.Frag} {σ : L2.St} {H : Hp} {t1 t2 ta te : TE} {D : Ends} {tz : TS} {C p dx : Addr} {fs : List (Str × V)} {m : Str} {sp : Sp} {E : XK}
theorem q_lst2L {i : Nat} {xs ys : List V} (h1 : EvL t1 σ H xs) (h2 : EvL t2 σ H ys) (k : ∀ a b L H1, H a = none → H b = none → H L = none → a ≠ b → a ≠ L → b ≠ L → Ex H H1 → H1 a = some (.lst xs) → H1 b = some (.lst ys) → H1 L = some (.lst [.ref a, .ref b]) → tz D (σ.set i (some (.ref L))) H1) : tSeq (tAsg (tLst (tCons t1 (tCons t2 tNil))) (gName i)) tz D σ H :=
  h1 H (Ex.refl _) _ fun a H1 ha e1 h1a => h2 H1 e1 _ fun b H2 hb e2 h2b => ⟨by show 2 ≤ sizeLine; decide, fun L hL => by
    have eL := Ex.new (o := .lst [.ref a, .ref b]) hL
    exact k a b L _ ha (fresh_back e1 hb) (fresh_back (e1.trans e2) hL) (ne_of_none h1a hb) (ne_of_none (e2 _ _ h1a) hL) (ne_of_none h2b hL) ((e1.trans e2).trans eL) (eL _ _ (e2 _ _ h1a)) (eL _ _ h2b) upd_same⟩
theorem ev_intB {b : Bool} (h : Ev te σ H (.bl b)) : Ev (tCB (fun xs H Q => (∃ i, xs = [V.int i] ∧ Q (V.int i) H) ∨ ∃ k : Bool, xs = [V.bl k] ∧ Q (V.int (if k then 1 else 0)) H) (tCons te tNil)) σ H (.int (if b then 1 else 0)) := ev_cb (ea_cons h ea_nil) fun H1 _ Q q => .inr ⟨b, rfl, q _ (Ex.refl _)⟩
theorem ev_lenW {n : Nat} (ha : Ev ta σ H (.ref p)) (hi : H p = some (.ins C dx fs)) (hl : fs.lookup m = none) (k : ∀ H1, Ex H H1 → ∀ Q : VK, (∀ L ys H2, Ex H1 H2 → H2 L = some (.lst ys) → ys.length = n → Q (.ref L) H2) → sp [.ref p] H1 Q E) : Ev (tCB (rLenS K) (tCons (tMeth C m sp [] E ta tNil) tNil)) σ H (.int (n : Int)) := fun H1 e Q q =>
  m_run (ha.mono e) (e _ _ hi) hl ea_nil fun H2 e2 => k H2 (e.trans e2) _ fun L ys H3 e3 h3 hn => ⟨L, ys, rfl, .inl (sq_of h3), by rw [hn]; exact q H3 (e2.trans e3)⟩
end
def spLaw (K : PySem.W.Frag) (Pi Pc Pf Pw Ph : Addr) : Sp := fun vs H Q _ => ∃ (a : Addr) (ns : List Int), vs = [.ref a] ∧ SqL K H a (ns.map V.int) ∧ ns.length ≤ 63 ∧ Tab H Pi ∧ Tab H Pc ∧ Tab H Pf ∧ Tab H Pw ∧ Tab H Ph ∧ ∀ H', Ex H H' → Q (.bl true) H'
section
variable {P : Program} {w : World} {K : PySem.W.Frag} {mg : Str → Option Value} {base : Heap} {tA : Tok} {aW : Addr} {C CL CN CO CS Pi Pc Pf Pw Ph : Addr}
theorem q_mR {σ : L2.St} {H : Hp} {ta te : TE} {D : Ends} {tz : TS} {sp : Sp} {E : XK} {C p dx : Addr} {fs : List (Str × V)} {m : Str} {xs : List V} (ha : Ev ta σ H (.ref p)) (hi : H p = some (.ins C dx fs)) (hl : fs.lookup m = none) (ht : EvL te σ H xs) (k : ∀ c H1, H c = none → Ex H H1 → H1 c = some (.lst xs) → sp [.ref p, .ref c] H1 (fun _ H2 => tz D σ H2) E) : tSeq (tDrop (tMeth C m sp [] E ta (tCons te tNil))) tz D σ H := mR_run (D := { D with nx := tz D }) ha hi hl ht k
theorem ok_law {f fC fI fO fA fH fU fW f1 f2 f3 f4 f5 f6 : Addr} {fd fdC fdI fdO fdA fdH fdU fdW fd1 fd2 fd3 fd4 fd5 fd6 : FuncData} (F : Fun K "law" "law" sLaw f fd)
    (FCl : Fun K "_law_cell" "_law_cell" sCl fC fdC) (GCl : FnOk P w K mg base CX0 1 fC fdC ["script", "k"] (spCel K)) (bCl : Binds K fdC ["script", "k"] []) (gCl : mg "_law_cell" = some (.ref fC)) (FIn : Fun K "_law_intent" "_law_intent" sIn fI fdI) (GIn : FnOk P w K mg base CX0 2 fI fdI ["cell", "most"] spIn) (bIn : Binds K fdI ["cell", "most"] []) (gIn : mg "_law_intent" = some (.ref fI))
    (FOld : Fun K "_law_old_log" "_law_old_log" sOld fO fdO) (GOld : FnOk P w K mg base CX0 4 fO fdO ["disk", "cell", "generation"] (spOld C Pw)) (bOld : Binds K fdO ["disk", "cell", "generation"] []) (gOld : mg "_law_old_log" = some (.ref fO))
    (FAp : Fun K "_law_appended" "_law_appended" sAp fA fdA) (GAp : FnOk P w K mg base CX0 7 fA fdA ["disk", "log", "intents"] (spAp C CL Pf Pw)) (bAp : Binds K fdA ["disk", "log", "intents"] []) (gAp : mg "_law_appended" = some (.ref fA))
    (FCho : Fun K "_law_choice" "_law_choice" sCho fH fdH) (GCho : FnOk P w K mg base CX0 2 fH fdH ["cell"] spCho) (bCho : Binds K fdH ["cell"] []) (gCho : mg "_law_choice" = some (.ref fH))
    (FDu : Fun K "_law_due" "_law_due" sLdu fU fdU) (GDu : FnOk P w K mg base CX0 1 fU fdU ["intents", "choices"] spLdu) (bDu : Binds K fdU ["intents", "choices"] []) (gDu : mg "_law_due" = some (.ref fU))
    (FWr : Fun K "whole_records" "whole_records" sWre fW fdW) (GWr : FnOk P w K mg base CX0 10 fW fdW ["sectors", "generation"] (spWre Pi Pc)) (bWr : Binds K fdW ["sectors", "generation"] []) (gWr : mg "whole_records" = some (.ref fW))
    (MD : Mk K C f1) (Gdinit : FnOk P w K mg base (L2.CX P w) 3 f1 fd1 ["self", "blocks"] (spInit C)) (bdinit : Binds K fd1 ["self", "blocks"] []) (ML : Mk K CL f2) (Glinit : FnOk P w K mg base CX0 1 f2 fd2 ["self", "generation"] (spLin CL)) (blinit : Binds K fd2 ["self", "generation"] [])
    (Gflush : FnOk P w K mg base (L2.CX P w) 2 f3 fd3 ["self"] (spFlush C CO)) (bflush : Binds K fd3 ["self"] []) (mflush : Meth K C "flush" f3) (Gcut : FnOk P w K mg base (L2.CX P w) 2 f4 fd4 ["self", "choices"] (spCut C CN Ph)) (bcut : Binds K fd4 ["self", "choices"] []) (mcut : Meth K C "cut" f4)
    (Gread : FnOk P w K mg base (L2.CX P w) 3 f5 fd5 ["self", "sector"] (spRead C CN CO)) (bread : Binds K fd5 ["self", "sector"] []) (mread : Meth K C "read" f5) (Gwaiting : FnOk P w K mg base CX0 1 f6 fd6 ["self"] (spWait C)) (bwaiting : Binds K fd6 ["self"] []) (mwaiting : Meth K C "waiting" f6)
    (T : Txt mg K tA aW) (TD : K68D.Txt mg K C) (TL : TxL mg K CL) : FnOk P w K mg base CX0 11 f fd ["script"] (spLaw K Pi Pc Pf Pw Ph) := by
  refine F.ok scLaw (fun vs H Q E h => ?_) (fun cdv A outer s H vs Q E hr h => ?_)
  · obtain ⟨a, ns, rfl, _⟩ := h
    rfl
  · obtain ⟨a, ns, rfl, hS, hl, hPi, hPc, hPf, hPw, hPh, q⟩ := h
    refine ⟨_, (pss_cons (ps_set (i := 1) scLaw.nd rfl (Or.inl rfl) (pe_op op_add pe_int (pe_op op_mod (pe_callTy call_int1 (by rfl) T.int (by decide +kernel) (pa_cons (pe_call GCl (hr.mono (by decide)) (by rfl) gCl FCl.kp bCl .nil pass0 (pa_cons (pv 0) (pa_cons pe_int pa_nil))) pa_nil)) (pe_op op_pow pe_int pe_int))))
      (pss_cons (ps_set (i := 2) scLaw.nd rfl (Or.inr rfl) (pe_make MD Gdinit (hr.mono (by decide)) (by rfl) TD.mgC bdinit .nil passL (pa_cons pe_int pa_nil)))
      (pss_cons (ps_expr (pe_call GOld (hr.mono (by decide)) (by rfl) gOld FOld.kp bOld .nil pass0 (pa_cons (pv 2) (pa_cons (pe_call GCl (hr.mono (by decide)) (by rfl) gCl FCl.kp bCl .nil pass0 (pa_cons (pv 0) (pa_cons pe_int pa_nil))) (pa_cons (pe_op op_add pe_int (pe_op op_mod (pe_callTy call_int1 (by rfl) T.int (by decide +kernel) (pa_cons (pe_call GCl (hr.mono (by decide)) (by rfl) gCl FCl.kp bCl .nil pass0 (pa_cons (pv 0) (pa_cons pe_int pa_nil))) pa_nil)) (pe_op op_sub (pv 1) pe_int))) pa_nil)))))
      (pss_cons (ps_set (i := 3) scLaw.nd rfl (Or.inl rfl) (pe_make ML Glinit (hr.mono (by decide)) (by rfl) TL.mgL blinit .nil pass0 (pa_cons (pv 1) pa_nil)))
      (pss_cons (ps_set (i := 4) scLaw.nd rfl (Or.inl rfl) (pe_lst (pa_cons (pe_lst pa_nil) (pa_cons (pe_lst pa_nil) pa_nil))))
      (pss_cons (ps_set (i := 5) scLaw.nd rfl (Or.inl rfl) pe_int)
      (pss_cons (ps_set (i := 6) scLaw.nd rfl (Or.inl rfl) (pe_op op_mod (pe_op op_fdiv (pe_callTy call_int1 (by rfl) T.int (by decide +kernel) (pa_cons (pe_call GCl (hr.mono (by decide)) (by rfl) gCl FCl.kp bCl .nil pass0 (pa_cons (pv 0) (pa_cons pe_int pa_nil))) pa_nil)) pe_int) pe_int))
      (pss_cons (ps_for PassesOwn.never rfl (pi_range1 (by rfl) T.range (pa_cons (pe_callB (call_min2 rfl) (by rfl) T.min (by decide +kernel) (pa_cons (pe_callB call_len_seq (by rfl) T.len (by decide +kernel) (pa_cons (pv 0) pa_nil)) (pa_cons pe_int pa_nil))) pa_nil)) (pg_name (i := 7) scLaw.nd rfl (Or.inl rfl)) (pss_cons (ps_set (i := 8) scLaw.nd rfl (Or.inl rfl) (pe_call GIn (hr.mono (by decide)) (by rfl) gIn FIn.kp bIn .nil pass0 (pa_cons (pe_op op_add (pe_call GCl (hr.mono (by decide)) (by rfl) gCl FCl.kp bCl .nil pass0 (pa_cons (pv 0) (pa_cons (pv 7) pa_nil))) (pv 7)) (pa_cons (pe_ix ix_list (pe_lst (pa_cons pe_int (pa_cons pe_int (pa_cons pe_int (pa_cons pe_int pa_nil))))) (pe_op op_mod (pe_op op_fdiv (pe_callTy call_int1 (by rfl) T.int (by decide +kernel) (pa_cons (pe_call GCl (hr.mono (by decide)) (by rfl) gCl FCl.kp bCl .nil pass0 (pa_cons (pv 0) (pa_cons (pv 7) pa_nil))) pa_nil)) pe_int) pe_int) (fun _ _ => rfl)) pa_nil))))
      (pss_one (ps_if (pt_cmpR op_le (pe_op op_add (pv 5) (pe_op op_fdiv (pe_op op_add (pe_callB call_len_seq (by rfl) T.len (by decide +kernel) (pa_cons (pv 8) pa_nil)) pe_int) pe_int)) pe_int (nomark _)) (pss_cons (ps_set (i := 5) scLaw.nd rfl (Or.inl rfl) (pe_op op_add (pv 5) (pe_op op_fdiv (pe_op op_add (pe_callB call_len_seq (by rfl) T.len (by decide +kernel) (pa_cons (pv 8) pa_nil)) pe_int) pe_int)))
      (pss_one (ps_expr (pe_bm PySem.F.plainAttrs_list PySem.F.slot_list_append PySem.F.type_list_append mt_append (pe_ix ix_list (pv 4) (pe_callTy call_int1 (by rfl) T.int (by decide +kernel) (pa_cons (pe_cmpR op_ge (pv 7) (pv 6) (nomark _)) pa_nil)) (fun _ _ => rfl)) (pa_cons (pv 8) pa_nil))))) pss_nil))))
      (pss_cons (ps_expr (pe_call GAp (hr.mono (by decide)) (by rfl) gAp FAp.kp bAp .nil pass0 (pa_cons (pv 2) (pa_cons (pv 3) (pa_cons (pe_ix ix_list (pv 4) pe_int (fun _ _ => rfl)) pa_nil)))))
      (pss_cons (ps_expr (pe_meth0 (pv 2) TD.cl mflush Gflush (hr.mono (by decide)) bflush .nil passL))
      (pss_cons (ps_expr (pe_call GAp (hr.mono (by decide)) (by rfl) gAp FAp.kp bAp .nil pass0 (pa_cons (pv 2) (pa_cons (pv 3) (pa_cons (pe_ix ix_list (pv 4) pe_int (fun _ _ => rfl)) pa_nil)))))
      (pss_cons (ps_set (i := 9) scLaw.nd rfl (Or.inl rfl) (pe_callB call_len_seq (by rfl) T.len (by decide +kernel) (pa_cons (pe_meth0 (pv 2) TD.cl mwaiting Gwaiting (hr.mono (by decide)) bwaiting .nil pass0) pa_nil)))
      (pss_cons (ps_setLc (i := 10) (own := [("k", 7)]) (g := gName 7) (tt := tYes) rfl scLaw.nd rfl rfl (sw_true rfl rfl rfl (by decide +kernel)) (pi_range1 (by rfl) T.range (pa_cons (pv 9) pa_nil)) (blkOk_by (own := [("k", 7)]) (N := ["script", "generation", "disk", "log", "batches", "used", "split", "k", "intent", "many", "choices", "sectors"]) (sc := defScope sLaw) (by decide +kernel)) (fun _ _ _ _ _ => pg_name (i := 7) scLaw.nd rfl (Or.inl rfl)) (fun _ _ _ _ _ => pts_nil) (fun _ _ _ _ _ => (pe_call GCho (hr.mono (by decide)) (by rfl) gCho FCho.kp bCho .nil pass0 (pa_cons (pe_op op_add (pe_op op_fdiv (pe_call GCl (hr.mono (by decide)) (by rfl) gCl FCl.kp bCl .nil pass0 (pa_cons (pv 0) (pa_cons (pe_op op_add pe_int (pv 7)) pa_nil))) pe_int) (pv 7)) pa_nil))))
      (pss_cons (ps_expr (pe_meth (pv 2) TD.cl mcut Gcut (hr.mono (by decide)) bcut .nil passL (pa_cons (pe_callTy call_list_of (by rfl) T.list (by decide +kernel) (pa_cons (pv 10) pa_nil)) pa_nil)))
      (pss_cons (ps_setLc (i := 11) (own := [("k", 7)]) (g := gName 7) (tt := tYes) rfl scLaw.nd rfl rfl (sw_true rfl rfl rfl (by decide +kernel)) (pi_range1 (by rfl) T.range (pa_cons pe_int pa_nil)) (blkOk_by (own := [("k", 7)]) (N := ["script", "generation", "disk", "log", "batches", "used", "split", "k", "intent", "many", "choices", "sectors"]) (sc := defScope sLaw) (by decide +kernel)) (fun _ _ _ _ _ => pg_name (i := 7) scLaw.nd rfl (Or.inl rfl)) (fun _ _ _ _ _ => pts_nil) (fun _ _ _ _ _ => (pe_meth (pv 2) TD.cl mread Gread (hr.mono (by decide)) bread .nil passL (pa_cons (pe_op op_add pe_int (pv 7)) pa_nil))))
      (pss_one (ps_ret (pe_cmpR (op_eqD hr.units) (pe_call GWr (hr.mono (by decide)) (by rfl) gWr FWr.kp bWr .nil pass0 (pa_cons (pv 11) (pa_cons (pv 1) pa_nil))) (pe_op op_cat (pe_ix ix_list (pv 4) pe_int (fun _ _ => rfl)) (pe_call GDu (hr.mono (by decide)) (by rfl) gDu FDu.kp bDu .nil pass0 (pa_cons (pe_ix ix_list (pv 4) pe_int (fun _ _ => rfl)) (pa_cons (pv 10) pa_nil)))) (nomark _))))))))))))))))))), ?_⟩
    have dno : ∀ {n : Nat} {ka sa wa : Addr} {pw : Bool} {bf : Option Nat} {m : Str}, m = "flush" ∨ m = "cut" ∨ m = "read" ∨ m = "waiting" → (dfl n ka sa wa pw bf).lookup m = Option.none := fun h => by
      rcases h with rfl | rfl | rfl | rfl <;> exact d_no ⟨by decide +kernel, by decide +kernel, by decide +kernel, by decide +kernel, by decide +kernel, by decide +kernel⟩
    have cl : ∀ {B : Hp} {σ : L2.St} {te : TE} {z : Int} (j : Nat), Ex H B → σ[0]? = some (some (.ref a)) → Ev te σ B (.int z) → z = (j : Int) → Ev (tCall (spCel K) [] E0 (tCons (tVar 0) (tCons te tNil))) σ B (.int (cellv ns j)) := fun j x h hz he => ev_call (vs := [.ref a, .int _]) (ea_cons (ev_var h) (ea_cons hz ea_nil)) (sv_cell (ex_l x hS) he)
    refine q_asg (v := .int (2 + cellv ns 0 % 10 ^ 9)) (ev_op ev_c (ev_op (ev_int1 (cl 0 (Ex.refl _) rfl ev_c rfl)) (ev_op ev_c ev_c (rv_I ⟨by decide, by decide, by decide⟩)) (rv_I (by show (0 : Int) < 10 ^ 9; decide))) rv_I0) fun H1 e1 => ?_
    have hg2 : 2 ≤ 2 + cellv ns 0 % 10 ^ 9 := by
      have := Int.emod_nonneg (cellv ns 0) (show (10 ^ 9 : Int) ≠ 0 by decide)
      omega
    generalize 2 + cellv ns 0 % 10 ^ 9 = g at hg2
    refine q_make (ea_cons ev_c ea_nil) fun p dx B1 B2 hp0 hp1 b1 hp2 b2 => ⟨B1, p, dx, 96, rfl, b2, hp1, hp2, by decide, by decide, fun G1 ka sa wa B3 S3 fr3 D3 => ⟨rfl, ?_⟩⟩
    have gB : Ex H G1 := (e1.trans b1).trans S3.g
    have c20 := Int.emod_nonneg (cellv ns 2) (show g - 1 ≠ 0 by omega)
    have c21 := Int.emod_lt_of_pos (cellv ns 2) (show 0 < g - 1 by omega)
    refine q_dropCall (vs := [.ref p, .int (cellv ns 1), .int (1 + cellv ns 2 % (g - 1))]) (ea_cons (ev_var rfl) (ea_cons (cl 1 (gB.trans D3.g) rfl ev_c rfl) (ea_cons (ev_op ev_c (ev_op (ev_int1 (cl 2 (gB.trans D3.g) rfl ev_c rfl)) (ev_op (ev_var rfl) ev_c rv_I0) (rv_I (by show 0 < g - 1; omega))) rv_I0) ea_nil))) fun B4 b4 => ⟨G1, p, ka, sa, wa, _, cellv ns 1, 1 + cellv ns 2 % (g - 1), rfl, D3.ex b4, rfl, rfl, rfl, rfl, by omega, hPw.mono gB, fun G2 B5 sa2 wa2 f0 S5 h07 D5 => ?_⟩
    have h7 : ∀ s, (f0 s).getD 7 0 ≠ g := fun s => by
      rcases h07 s with h | h <;> omega
    have gB2 := gB.trans S5.g
    refine q_make (ea_cons (ev_var rfl) ea_nil) fun lp dl B6 B7 hl5 hl6 b6 hl7 b7 => ⟨lp, dl, g, rfl, hl7, fun B8 b8 hL8 => ⟨rfl, ?_⟩⟩
    have gl2 : G2 lp = none := fresh_back D5.g hl5
    have D8 := dk_bx (D5.ex (b6.trans b7)) gl2 hl7 (fun z => D5.al.1 (by rw [← z]; exact hl5)) b8
    refine q_lst2L (el_lst ea_nil (by decide)) (el_lst ea_nil (by decide)) fun l0 l1 bl B9 h0 h1 hb n01 n0b n1b b9 h0x h1x hbx => ?_
    refine q_asg ev_c fun B10 b10 => ?_
    obtain ⟨sp, hsp⟩ : ∃ sp, sp = cellv ns 0 / 3 % 4 := ⟨_, rfl⟩
    have e8 : Ex H B8 := gB2.trans D8.g
    refine q_asg (v := .int sp) (ev_is (ev_op (ev_op (ev_int1 (cl 0 (e8.trans (b9.trans b10)) rfl ev_c rfl)) ev_c (rv_I ⟨by decide, by decide⟩)) ev_c (rv_I (by show (0 : Int) < 4; decide))) (by rw [hsp])) fun B11 b11 => ?_
    have b911 := (b9.trans b10).trans b11
    refine q_forR1 (ea_cons (ev_min2 (ev_is (ev_len (ev_var rfl) (ex_l (e8.trans b911) hS)) (w := .int (ns.length : Int)) (by rw [List.length_map])) ev_c) ea_nil) ⟨by split <;> omega, by split <;> omega⟩ (fun k σ' B => ∃ (ts0 ts1 : List Addr) (b0 bb1 : List (List Int)) (y7 y8 : Option V), σ' = [some (.ref a), some (.int g), some (.ref p), some (.ref lp), some (.ref bl), some (.int ((lenR b0 + lenR bb1 : Nat) : Int)), some (.int sp), y7, y8, none, none, none] ∧ Ex B8 B ∧ B bl = some (.lst [.ref l0, .ref l1]) ∧ B l0 = some (.lst (ts0.map V.ref)) ∧ B l1 = some (.lst (ts1.map V.ref)) ∧ TLs B ts0 b0 ∧ TLs B ts1 bb1 ∧ (∀ t ∈ ts0, B8 t = none) ∧ (∀ t ∈ ts1, B8 t = none) ∧ lenR b0 + lenR bb1 ≤ 16 ∧ (∀ ys ∈ b0, GoodI ys) ∧ ∀ ys ∈ bb1, GoodI ys) (fun B eB => ⟨[], [], [], [], none, none, rfl, b911.trans eB, eB _ _ (b11 _ _ (b10 _ _ hbx)), eB _ _ (b11 _ _ (b10 _ _ h0x)), eB _ _ (b11 _ _ (b10 _ _ h1x)), ⟨rfl, fun i t ys h => by cases h⟩, ⟨rfl, fun i t ys h => by cases h⟩, fun t h => (by cases h), fun t h => (by cases h), by decide, fun ys h => (by cases h), fun ys h => by cases h⟩) ?_ ?_
    · rintro k σ' B hk ⟨ts0, ts1, b0, bb1, y7, y8, rfl, eB, hbl, hl0, hl1, hT0, hT1, f0', f1', h16, hg0, hg1⟩
      have eHB := e8.trans eB
      have z0 := Int.emod_nonneg (cellv ns k / 5) (show (4 : Int) ≠ 0 by decide)
      have z1 := Int.emod_lt_of_pos (cellv ns k / 5) (show (0 : Int) < 4 by decide)
      obtain ⟨m, hm, hat⟩ := pick68 z0 z1
      refine q_run (vs := [.int (cellv ns k + (k : Int)), .int m]) (ea_cons (ev_op (cl k eHB rfl (ev_var rfl) rfl) (ev_var rfl) rv_I0) (ea_cons (ev_opL1 (xs := ([9, 9, 9, 59] : List Int).map V.int) (el_lst (ea_cons ev_c (ea_cons ev_c (ea_cons ev_c (ea_cons ev_c ea_nil)))) (by simp)) (fun B1 b1 => ev_op (ev_op (ev_int1 (cl k (eHB.trans b1) rfl (ev_var rfl) rfl)) ev_c (rv_I ⟨by decide, by decide⟩)) ev_c (rv_I (by show (0 : Int) < 4; decide))) (fun _ _ hp _ => rv_ixL (sq_of hp) hat)) ea_nil)) fun C1 c1 => ⟨_, m, rfl, hm.1, hm.2, fun t C2 ys ht c2 h2 hI => ?_⟩
      have c12 := c1.trans c2
      have hlen := hI.len hm.2
      have t8 : B8 t = none := fresh_back (eB.trans c1) ht
      have hgood : GoodI ys := ⟨hI.chk, by omega, hI.nn⟩
      have hpp := pI_pos ys.length
      refine s_when (b := decide (((lenR b0 + lenR bb1 : Nat) : Int) + pI ys.length ≤ 16)) (et_is (et_test (ev_op (ev_op (ev_var rfl) (ev_is (ev_op (ev_op (ev_is (ev_lenT (ev_var rfl) (st_of (h2))) (w := .int (ys.length : Int)) (by rw [List.length_map])) ev_c rv_I0) ev_c (rv_I ⟨by decide, by decide⟩)) (w := .int (pI ys.length)) rfl) rv_I0) ev_c rv_I0)) rfl) (fun hb C3 c3 => ?_) (fun hb C3 c3 => ⟨ts0, ts1, b0, bb1, _, _, rfl, (eB.trans c12).trans c3, c3 _ _ (c12 _ _ hbl), c3 _ _ (c12 _ _ hl0), c3 _ _ (c12 _ _ hl1), (hT0.ex c12).ex c3, (hT1.ex c12).ex c3, f0', f1', h16, hg0, hg1⟩)
      have hfit := of_decide_eq_true hb
      have hpN : lenR [ys] = (pI ys.length).toNat := rfl
      refine q_asg (ev_op (ev_var rfl) (ev_is (ev_op (ev_op (ev_is (ev_lenT (ev_var rfl) (st_of (c3 _ _ h2))) (w := .int (ys.length : Int)) (by rw [List.length_map])) ev_c rv_I0) ev_c (rv_I ⟨by decide, by decide⟩)) (w := .int (pI ys.length)) rfl) rv_I0) fun C4 c4 => ?_
      have c14 := (c12.trans c3).trans c4
      have hbl4 := c14 _ _ hbl
      have hl04 := c14 _ _ hl0
      have hl14 := c14 _ _ hl1
      have ht4 : C4 t = some (.tup (ys.map V.int)) := c4 _ _ (c3 _ _ h2)
      have hz0 : ts0.length ≤ 16 := by have := len_le b0; rw [hT0.1]; omega
      have hz1 : ts1.length ≤ 16 := by have := len_le bb1; rw [hT1.1]; omega
      cases hkb : decide ((k : Int) ≥ sp) with
      | true =>
        refine s_app (xs := ts1.map V.ref) (v := .ref t) hl14 (ev_op (ev_var rfl) (ev_is (ev_intB (b := decide ((k : Int) ≥ sp)) (ev_op (ev_var rfl) (ev_var rfl) rv_I0)) (w := .int 1) (by rw [hkb]; rfl)) (rv_ixL (sq_of hbl4) (v := .ref l1) rfl)) (ev_var rfl) (by rw [List.length_map]; omega) fun C5 c5 => ⟨ts0, ts1 ++ [t], b0, bb1 ++ [ys], some (.int (k : Int)), some (.ref t), ?_, ((eB.trans c14).trans c5).mut h1, ?_, ?_, ?_, (hT0.ex c14).mut c5 hl14, ?_, f0', ?_, ?_, hg0, ?_⟩
        · show [_, _, _, _, _, some (V.int _), _, _, _, _, _, _] = [_, _, _, _, _, some (V.int _), _, _, _, _, _, _]
          rw [lenR_app, hpN, show ((lenR b0 + lenR bb1 : Nat) : Int) + pI ys.length = ((lenR b0 + (lenR bb1 + (pI ys.length).toNat) : Nat) : Int) by omega]
        · rw [upd_ne n1b.symm]
          exact c5 _ _ hbl4
        · rw [upd_ne n01]
          exact c5 _ _ hl04
        · rw [upd_same, List.map_append]
          rfl
        · exact ((hT1.ex c14).mut c5 hl14).snoc (by rw [upd_ne (fun z => by rw [z, hl14] at ht4; cases ht4)]; exact c5 _ _ ht4)
        · intro x hx
          rcases List.mem_append.mp hx with hx | hx
          · exact f1' x hx
          · rw [List.mem_singleton.mp hx]
            exact t8
        · rw [lenR_app, hpN]
          omega
        · intro x hx
          rcases List.mem_append.mp hx with hx | hx
          · exact hg1 x hx
          · rw [List.mem_singleton.mp hx]
            exact hgood
      | false =>
        refine s_app (xs := ts0.map V.ref) (v := .ref t) hl04 (ev_op (ev_var rfl) (ev_is (ev_intB (b := decide ((k : Int) ≥ sp)) (ev_op (ev_var rfl) (ev_var rfl) rv_I0)) (w := .int 0) (by rw [hkb]; rfl)) (rv_ixL (sq_of hbl4) (v := .ref l0) rfl)) (ev_var rfl) (by rw [List.length_map]; omega) fun C5 c5 => ⟨ts0 ++ [t], ts1, b0 ++ [ys], bb1, some (.int (k : Int)), some (.ref t), ?_, ((eB.trans c14).trans c5).mut h0, ?_, ?_, ?_, ?_, (hT1.ex c14).mut c5 hl04, ?_, f1', ?_, ?_, hg1⟩
        · show [_, _, _, _, _, some (V.int _), _, _, _, _, _, _] = [_, _, _, _, _, some (V.int _), _, _, _, _, _, _]
          rw [lenR_app, hpN, show ((lenR b0 + lenR bb1 : Nat) : Int) + pI ys.length = ((lenR b0 + (pI ys.length).toNat + lenR bb1 : Nat) : Int) by omega]
        · rw [upd_ne n0b.symm]
          exact c5 _ _ hbl4
        · rw [upd_same, List.map_append]
          rfl
        · rw [upd_ne n01.symm]
          exact c5 _ _ hl14
        · exact ((hT0.ex c14).mut c5 hl04).snoc (by rw [upd_ne (fun z => by rw [z, hl04] at ht4; cases ht4)]; exact c5 _ _ ht4)
        · intro x hx
          rcases List.mem_append.mp hx with hx | hx
          · exact f0' x hx
          · rw [List.mem_singleton.mp hx]
            exact t8
        · rw [lenR_app, hpN]
          omega
        · intro x hx
          rcases List.mem_append.mp hx with hx | hx
          · exact hg0 x hx
          · rw [List.mem_singleton.mp hx]
            exact hgood
    · rintro σ' B ⟨ts0, ts1, b0, bb1, y7, y8, rfl, eB, hbl, hl0, hl1, hT0, hT1, f0', f1', h16, hg0, hg1⟩
      obtain ⟨G3, S9, D9, new⟩ := D8.join eB
      have gbl := new _ _ hb hbl
      have gl0 := new _ _ h0 hl0
      have gl1 := new _ _ h1 hl1
      have gT0 : TLs G3 ts0 b0 := ⟨hT0.1, fun i t ys x y => new _ _ (f0' t (List.mem_of_getElem? x)) (hT0.2 i t ys x y)⟩
      have gT1 : TLs G3 ts1 bb1 := ⟨hT1.1, fun i t ys x y => new _ _ (f1' t (List.mem_of_getElem? x)) (hT1.2 i t ys x y)⟩
      have hLB := hL8.ex eB
      have gl3 : G3 lp = none := S9.n lp (by
        obtain ⟨_, hx⟩ := hL8
        rw [hx]
        exact fun z => by cases z) gl2
      have gB3 := gB2.trans S9.g
      clear new S9 D8 D5 S5 D3 S3 fr3 h07 hL8 hT0 hT1 f0' f1' hl0 hl1 hbl
      have hy0 := len_le b0
      have hy1 := len_le bb1
      refine q_dropCall (vs := [.ref p, .ref lp, .ref l0]) (ea_cons (ev_var rfl) (ea_cons (ev_var rfl) (ea_cons (ev_op (ev_var rfl) ev_c (rv_ixL (sq_of (D9.g _ _ gbl)) (v := .ref l0) rfl)) ea_nil))) fun C1 c1 => ⟨G3, p, ka, sa2, wa2, _, lp, g, 1, l0, b0, 4, rfl, D9.ex c1, gl3, hLB.ex c1, ⟨ts0, c1 _ _ (D9.g _ _ gl0), gT0.1, fun i t ys x y => c1 _ _ (D9.g _ _ (gT0.2 i t ys x y))⟩, ⟨by omega, fun ys h => (hg0 ys h).2.1⟩, (hPf.mono gB3).mono (D9.g.trans c1), hPw.mono gB3, rfl, rfl, rfl, by omega, by decide, by omega, fun ys h => (hg0 ys h).2.2, fun G4 C2 S10 gl4 hL10 D10 => ?_⟩
      obtain ⟨dx10, ho10⟩ := D10.o
      refine q_m (ev_var rfl) ho10 (dno (.inl rfl)) ea_nil fun C3 c3 => ⟨G4, p, ka, sa2, wa2, 96, _, rfl, D10.ex c3, fun hon G5 C4 sa3 wa3 S11 fr11 D11 => ?_, fun hno => absurd ⟨rfl, fun z => by cases z⟩ hno⟩
      obtain ⟨n10, n11, _, _⟩ := lg_ne (D10.ex c3) (hL10.ex c3)
      have hL11 : Lg CL C4 lp g ((4 + lenR b0 : Nat) : Int) (1 + (b0.length : Int)) := by
        obtain ⟨dl', hx⟩ := hL10.ex c3
        exact ⟨dl', fr11 _ _ hx n10 n11⟩
      have gl5 : G5 lp = none := S11.n lp (by
        obtain ⟨_, hx⟩ := hL10.ex c3
        rw [hx]
        exact fun z => by cases z) gl4
      have g35 := S10.g.trans S11.g
      have gB5 := gB3.trans g35
      refine q_dropCall (vs := [.ref p, .ref lp, .ref l1]) (ea_cons (ev_var rfl) (ea_cons (ev_var rfl) (ea_cons (ev_op (ev_var rfl) ev_c (rv_ixL (sq_of (D11.g _ _ (g35 _ _ gbl))) (v := .ref l1) rfl)) ea_nil))) fun C5 c5 => ⟨G5, p, ka, sa3, wa3, _, lp, g, 1 + (b0.length : Int), l1, bb1, 4 + lenR b0, rfl, D11.ex c5, gl5, hL11.ex c5, ⟨ts1, c5 _ _ (D11.g _ _ (g35 _ _ gl1)), gT1.1, fun i t ys x y => c5 _ _ (D11.g _ _ (g35 _ _ (gT1.2 i t ys x y)))⟩, ⟨by omega, fun ys h => (hg1 ys h).2.1⟩, (hPf.mono gB5).mono (D11.g.trans c5), hPw.mono gB5, rfl, rfl, rfl, by omega, by omega, by omega, fun ys h => (hg1 ys h).2.2, fun G6 C6 S12 gl6 hL12 D12 => ?_⟩
      have g36 := g35.trans S12.g
      have gB6 := gB3.trans g36
      obtain ⟨dx12, ho12⟩ := D12.o
      refine q_asg (v := .int (lenR bb1 : Int)) (ev_lenW (n := lenR bb1) (ev_var rfl) ho12 (dno (.inr (.inr (.inr rfl)))) fun C7 c7 Q' q' => ⟨G6, p, ka, sa3, wa3, 96, _, rfl, D12.ex c7, fun L ys C8 hL c8 h8 hn _ => q' L ys C8 c8 h8 (by rw [hn]; exact wsN_len _ _ _)⟩) fun C7 c7 => ?_
      refine er_asg (er_R1 (R := Ch8) (n := (lenR bb1 : Int)) (ea_cons (ev_var rfl) ea_nil) ⟨by omega, by omega⟩ (fun _ => rfl) ch8_mon (fun i Dd B hD xB hDn hi xs hxl hpre Q' q' => (ea_cons (vs := []) (ev_op (ev_op (cl (3 + i) ((gB6.trans D12.g).trans (c7.trans xB)) rfl (ev_op ev_c (ev_var rfl) rv_I0) (by push_cast; rfl)) ev_c (rv_I ⟨by decide, by decide⟩)) (ev_var rfl) rv_I0) ea_nil) B (Ex.refl _) _ fun B1 b1 => ⟨_, rfl, fun k hk B2 b2 => q' _ B2 (b1.trans b2) ⟨k, rfl, hk⟩⟩)) fun chl xs C8 hchl c8 hch hxn hxr => ?_
      obtain ⟨cs, rfl, hk8⟩ := ch8_nats (xs := xs) fun y hy => by
        obtain ⟨i, hi⟩ := List.mem_iff_getElem?.mp hy
        exact hxr i y hi
      have hcl : cs.length = lenR bb1 := by
        rw [List.length_map] at hxn
        omega
      have D13 := D12.ex (c7.trans c8)
      obtain ⟨G7, S13, D14, new7⟩ := D12.join (c7.trans c8)
      have gch := new7 _ _ (fresh_back c7 hchl) hch
      obtain ⟨dx14, ho14⟩ := D14.o
      refine q_mR (ev_var rfl) ho14 (dno (.inr (.inl rfl))) (el_list (ev_var rfl) (sq_of hch)) fun c C9 hc0 c9 hc9 => ⟨G7, p, ka, sa3, wa3, 96, _, c, cs.map nV, rfl, D14.ex c9, hc9, (by rw [nV_ints]; exact kd_ints _), hPh.mono (gB6.trans S13.g), (fun z => D14.al.2.1 (by rw [← z]; exact hc0)), fun hn => absurd (nats_wc hk8) (by rw [hn]; decide), fun cs' hcs' _ G8 C10 sa4 wa4 S15 fr15 D15 => ?_⟩
      obtain rfl := nV_inj hcs'
      have g38 := g36.trans (S13.g.trans S15.g)
      have gB8 := gB3.trans g38
      obtain ⟨f2, hf2⟩ : ∃ f2, f2 = K68D.aftN (K68D.aftN f0 (wsN 4 (recsI b0 1 g) (lenR b0)) (fun _ => 8) (lenR b0)) (wsN (4 + lenR b0) (recsI bb1 (1 + b0.length) g) (lenR bb1)) (fun j => cs.getD j 0) (lenR bb1) := ⟨_, rfl⟩
      obtain ⟨tl, htl, hno⟩ := torn_all (fun s => D9.kz s) h7 h16 hcl hk8 hf2
      have D16 : DK C G8 C10 p ka sa4 wa4 96 ⟨f2, [], true, none⟩ := by
        rw [hf2]
        have h := D15
        simp only [wsN_len] at h
        exact h
      obtain ⟨dx16, ho16⟩ := D16.o
      have hr8 : ∀ row ∈ (List.range 16).map (fun k => f2 (4 + k)), row.length = 8 := fun row h => by
        obtain ⟨k, _, rfl⟩ := List.mem_map.mp h
        exact D16.kz _
      refine er_asg (er_R1 (R := Rc ((List.range 16).map fun k => f2 (4 + k))) (n := 16) (ea_cons ev_c ea_nil) ⟨by decide, by decide⟩ (fun _ => rfl) (rc_mon _) (fun i Dd B hD xB hDn hi xs hxl hpre Q' q' => m_run (Q := Q') (ev_var rfl) (xB _ _ ho16) (dno (.inr (.inr (.inl rfl)))) (ea_cons (x := .int (4 + (i : Int))) (ev_op ev_c (ev_var rfl) rv_I0) ea_nil) fun B1 b1 => ⟨G8, p, ka, sa4, wa4, 96, _, 4 + (i : Int), rfl, D16.ex (xB.trans b1), fun _ s hs hs4 L B2 hL b2 h2 => q' (.ref L) B2 (b1.trans b2) ⟨L, rfl, but_new hDn (fresh_back b1 hL) (by
        have e1 : s = 4 + i := by omega
        have e2 : i < 16 := by omega
        rw [h2, e1, List.getD_eq_getElem?_getD, List.getElem?_map, List.getElem?_range e2]
        rfl)⟩, fun h => (by cases h), fun _ hno => absurd ⟨by omega, by omega⟩ hno⟩)) fun sl xs C11 hsl c11 hsx hxn hxr => ?_
      obtain ⟨ks, rfl, hLs⟩ := mk_LLs (rows := (List.range 16).map fun k => f2 (4 + k)) (by rw [hxn, List.length_map, List.length_range]; rfl) hxr
      have eF := gB8.trans (D16.g.trans c11)
      have eG3 := g38.trans (D16.g.trans c11)
      have hall : ∀ ys ∈ b0 ++ bb1.take (dueN bb1 (cs.map fun k : Nat => (k : Int))), chkB ys = true ∧ ys.length ≤ 90 := fun ys h => by
        rcases List.mem_append.mp h with h | h
        · exact ⟨(hg0 ys h).1, (hg0 ys h).2.1⟩
        · exact ⟨(hg1 ys (List.mem_of_mem_take h)).1, (hg1 ys (List.mem_of_mem_take h)).2.1⟩
      have hchF : C11 chl = some (.lst ((cs.map fun k : Nat => (k : Int)).map V.int)) := by
        rw [← nV_ints]
        exact c11 _ _ (D16.g _ _ (S15.g _ _ gch))
      refine s_ret (v := .bl true) (fun C12 x12 Q' q' => ?_) fun C13 x13 => q C13 (eF.trans x13)
      show tCall (spWre Pi Pc) [] E0 (tCons (tVar 11) (tCons (tVar 1) tNil)) _ C12 _
      show tCons (tVar 11) (tCons (tVar 1) tNil) _ C12 _
      refine (ea_cons (x := .ref sl) (ev_var rfl) (ea_cons (x := .int g) (ev_var rfl) ea_nil)) C12 (Ex.refl _) _ fun C13 x13 => ⟨sl, ks, _, g, _, tl, rfl, x13 _ _ (x12 _ _ hsx), hLs.ex (x12.trans x13), hr8, by rw [List.length_map, List.length_range]; decide, htl, hall, hno, hPi.mono (eF.trans (x12.trans x13)), hPc.mono (eF.trans (x12.trans x13)), fun L ts' C14 hL x14 hLx hT' => ?_⟩
      have x24 := (x12.trans x13).trans x14
      show tOp rCat _ _ _ C14 _
      refine el_cat (xs := ts0.map V.ref) (ys := (ts1.take (dueN bb1 (cs.map fun k : Nat => (k : Int)))).map V.ref) (ev_op (ev_var rfl) ev_c (rv_ixL (sq_of (x24 _ _ (eG3 _ _ gbl))) (v := .ref l0) rfl)) (x24 _ _ (eG3 _ _ gl0)) (fun C15 x15 Q2 q2 => (ea_cons (x := .ref l1) (ev_op (ev_var rfl) ev_c (rv_ixL (sq_of (x15 _ _ (x24 _ _ (eG3 _ _ gbl)))) (v := .ref l1) rfl)) (ea_cons (x := .ref chl) (ev_var rfl) ea_nil)) C15 (Ex.refl _) _ fun C16 x16 => ⟨l1, chl, ts1, bb1, cs.map (fun k : Nat => (k : Int)), rfl, x16 _ _ (x15 _ _ (x24 _ _ (eG3 _ _ gl1))), gT1.ex (eG3.trans (x24.trans (x15.trans x16))), x16 _ _ (x15 _ _ (x24 _ _ hchF)), by rw [List.length_map]; exact hcl, by omega, fun L2 C17 hL2 x17 hLx2 => q2 L2 C17 (fresh_back x16 hL2) (x16.trans x17) hLx2⟩) (by rw [List.length_map, List.length_map, List.length_take, gT0.1, gT1.1]; omega) C14 (Ex.refl _) _ fun R C15 hR x15 hRx => ?_
      have x25 := x24.trans x15
      rw [← List.map_append] at hRx
      exact rv_eqD (d := dT (b0 ++ bb1.take (dueN bb1 (cs.map fun k : Nat => (k : Int))))) (.lst (sq_of (x15 _ _ hLx)) (dpa_TL (hT'.ex x15))) (.lst (sq_of hRx) (dpa_TL ((gT0.app (gT1.take _)).ex (eG3.trans x25)))) (sh_dT _) (by decide) C15 (Ex.refl _) Q' fun C16 x16 => q' C16 (((x13.trans x14).trans x15).trans x16)
end

end K68

set_option Elab.async false
set_option linter.all false
set_option maxRecDepth 100000
set_option maxHeartbeats 4000000
namespace K68
open PySem PySem.Spec PyProof.Rows L2 Evl LK LT LG LS LQ LX LO LN LP LH LV LZ LW StX K68D
def d1 : He.DefD := ⟨("is_word", none), "is_word", "is_word", defArgs sIw, defBody sIw, defScope sIw, [], []⟩
def d2 : He.DefD := ⟨("is_name", none), "is_name", "is_name", defArgs sIs, defBody sIs, defScope sIs, [], []⟩
def d3 : He.DefD := ⟨("name_word", none), "name_word", "name_word", defArgs sWord, defBody sWord, defScope sWord, [], []⟩
def d4 : He.DefD := ⟨("word_name", none), "word_name", "word_name", defArgs sWn, defBody sWn, defScope sWn, [], []⟩
def d5 : He.DefD := ⟨("is_owner", none), "is_owner", "is_owner", defArgs sOw, defBody sOw, defScope sOw, [], []⟩
def d6 : He.DefD := ⟨("is_name_word", none), "is_name_word", "is_name_word", defArgs sInw, defBody sInw, defScope sInw, [], []⟩
def d7 : He.DefD := ⟨("is_field", none), "is_field", "is_field", defArgs sFld, defBody sFld, defScope sFld, [], []⟩
def d8 : He.DefD := ⟨("is_within_bounds", none), "is_within_bounds", "is_within_bounds", defArgs sBnd, defBody sBnd, defScope sBnd, [], []⟩
def d9 : He.DefD := ⟨("check_intent", none), "check_intent", "check_intent", defArgs sChk, defBody sChk, defScope sChk, [], []⟩
def d10 : He.DefD := ⟨("parts_for", none), "parts_for", "parts_for", defArgs sPf, defBody sPf, defScope sPf, [], []⟩
def d11 : He.DefD := ⟨("sectors_of", none), "sectors_of", "sectors_of", defArgs sSo, defBody sSo, defScope sSo, [], []⟩
def d12 : He.DefD := ⟨("record_sectors", none), "record_sectors", "record_sectors", defArgs sRs, defBody sRs, defScope sRs, [], []⟩
def d13 : He.DefD := ⟨("is_whole", none), "is_whole", "is_whole", defArgs sIwh, defBody sIwh, defScope sIwh, [], []⟩
def d14 : He.DefD := ⟨("read_record_words", none), "read_record_words", "read_record_words", defArgs sRr, defBody sRr, defScope sRr, [], []⟩
def d15 : He.DefD := ⟨("whole_records", none), "whole_records", "whole_records", defArgs sWre, defBody sWre, defScope sWre, [], []⟩
def d16 : He.DefD := ⟨("Log", some "__init__"), "__init__", "Log.__init__", defArgs sLin, defBody sLin, defScope sLin, [], []⟩
def d17 : He.DefD := ⟨("Log", some "fits"), "fits", "Log.fits", defArgs sFits, defBody sFits, defScope sFits, [], []⟩
def d18 : He.DefD := ⟨("Log", some "append_records"), "append_records", "Log.append_records", defArgs sApp, defBody sApp, defScope sApp, [], []⟩
def d19 : He.DefD := ⟨("are_words", none), "are_words", "are_words", defArgs sAre, defBody sAre, defScope sAre, [], []⟩
def d20 : He.DefD := ⟨("is_size", none), "is_size", "is_size", defArgs sSize, defBody sSize, defScope sSize, [], []⟩
def d21 : He.DefD := ⟨("are_choices", none), "are_choices", "are_choices", defArgs sChs, defBody sChs, defScope sChs, [], []⟩
def d22 : He.DefD := ⟨("Disk", some "__init__"), "__init__", "Disk.__init__", defArgs sInit, defBody sInit, defScope sInit, [], []⟩
def d23 : He.DefD := ⟨("Disk", some "read"), "read", "Disk.read", defArgs sRead, defBody sRead, defScope sRead, [], []⟩
def d24 : He.DefD := ⟨("Disk", some "write"), "write", "Disk.write", defArgs sWrite, defBody sWrite, defScope sWrite, [], []⟩
def d25 : He.DefD := ⟨("Disk", some "flush"), "flush", "Disk.flush", defArgs sFlush, defBody sFlush, defScope sFlush, [], []⟩
def d26 : He.DefD := ⟨("Disk", some "waiting"), "waiting", "Disk.waiting", defArgs sWait, defBody sWait, defScope sWait, [], []⟩
def d27 : He.DefD := ⟨("Disk", some "cut"), "cut", "Disk.cut", defArgs sCut, defBody sCut, defScope sCut, [], []⟩
def d28 : He.DefD := ⟨("Disk", some "_is_sector"), "_is_sector", "Disk._is_sector", defArgs sSec, defBody sSec, defScope sSec, [], []⟩
def d29 : He.DefD := ⟨("Disk", some "_begin_operation"), "_begin_operation", "Disk._begin_operation", defArgs sBeg, defBody sBeg, defScope sBeg, [], []⟩
def d30 : He.DefD := ⟨("Disk", some "_settle_writes"), "_settle_writes", "Disk._settle_writes", defArgs sSet, defBody sSet, defScope sSet, [], []⟩
def d31 : He.DefD := ⟨("_law_cell", none), "_law_cell", "_law_cell", defArgs sCl, defBody sCl, defScope sCl, [], []⟩
def d32 : He.DefD := ⟨("_law_digits", none), "_law_digits", "_law_digits", defArgs sDg, defBody sDg, defScope sDg, [], []⟩
def d33 : He.DefD := ⟨("_law_intent", none), "_law_intent", "_law_intent", defArgs sIn, defBody sIn, defScope sIn, [], []⟩
def d34 : He.DefD := ⟨("_law_old_log", none), "_law_old_log", "_law_old_log", defArgs sOld, defBody sOld, defScope sOld, [], []⟩
def d35 : He.DefD := ⟨("_law_appended", none), "_law_appended", "_law_appended", defArgs sAp, defBody sAp, defScope sAp, [], []⟩
def d36 : He.DefD := ⟨("_law_choice", none), "_law_choice", "_law_choice", defArgs sCho, defBody sCho, defScope sCho, [], []⟩
def d37 : He.DefD := ⟨("_law_due", none), "_law_due", "_law_due", defArgs sLdu, defBody sLdu, defScope sLdu, [], []⟩
def d38 : He.DefD := ⟨("law", none), "law", "law", defArgs sLaw, defBody sLaw, defScope sLaw, [], []⟩
def fnL : List He.DefD := [d1, d2, d3, d4, d5, d6, d7, d8, d9, d10, d11, d12, d13, d14, d15, d16, d17, d18, d19, d20, d21, d22, d23, d24, d25, d26, d27, d28, d29, d30, d31, d32, d33, d34, d35, d36, d37, d38]
def faL : List He.Fa := ([.glo "is_word", .glo "is_name", .glo "name_word", .glo "word_name", .glo "is_owner", .glo "is_name_word", .glo "is_field", .glo "is_within_bounds", .glo "check_intent", .glo "parts_for", .glo "sectors_of", .glo "record_sectors", .glo "is_whole", .glo "read_record_words", .glo "whole_records", .meth "Log" "fits", .meth "Log" "append_records", .glo "are_words", .glo "is_size", .glo "are_choices", .meth "Disk" "read", .meth "Disk" "write", .meth "Disk" "flush", .meth "Disk" "waiting", .meth "Disk" "cut", .meth "Disk" "_is_sector", .meth "Disk" "_begin_operation", .meth "Disk" "_settle_writes", .glo "_law_cell", .glo "_law_digits"] : List He.Fa) ++ ([.glo "_law_intent", .glo "_law_old_log", .glo "_law_appended", .glo "_law_choice", .glo "_law_due", .glo "law", .free "len", .free "range", .free "isinstance", .free "bool", .free "int", .free "all", .free "any", .free "divmod", .free "zip", .free "tuple", .free "list", .free "min", .free "str", .free "dict", .free "abs", .free "max", .free "enumerate", .free "sum", .int "GROUP_WORDS" 4, .int "BASE" 40, .int "LONGEST_NAME" 11, .int "FILE" 1, .int "DIRECTORY" 2, .int "MAX_CELLS" 2048] : List He.Fa) ++ ([.int "MAX_UNITS" 64, .int "GREATEST_OWNER" 255, .int "WRITE" 6, .int "RESIZE" 7, .int "SHARE" 8, .int "MIN_BLOCKS" 96, .int "MAX_BLOCKS" 256, .int "SECTOR_WORDS" 8, .int "BLOCK_SECTORS" 4, .int "FIRST_SECTOR" 4, .int "LOG_SECTORS" 16, .str "ALPHABET" "abcdefghijklmnopqrstuvwxyz0123456789._-", .glo "WORDS_OF", .glo "Disk", .cls "Disk", .keep "Disk", .noat "Disk" "blocks", .noat "Disk" "_kept", .noat "Disk" "_shown", .noat "Disk" "_writes", .noat "Disk" "_powered", .noat "Disk" "_before_failure", .mkr "Disk", .glo "Log", .cls "Log", .keep "Log", .noat "Log" "generation", .noat "Log" "next_sector", .noat "Log" "next_record", .mkr "Log"] : List He.Fa) ++ ([.glo "BadName", .exc "BadName", .glo "BadImage", .exc "BadImage", .glo "NotValid", .exc "NotValid", .glo "PowerOff", .exc "PowerOff", .glo "NoSpace", .exc "NoSpace"] : List He.Fa)
def tfL : List He.Defn := [("is_name", none), ("check_intent", none), ("Log", some "fits"), ("are_words", none), ("are_choices", none)]
def exL (K : PySem.W.Frag) : Bool := (HE.dictC K "BadName" && (HE.dictC K "BadImage" && (HE.dictC K "NotValid" && (HE.dictC K "PowerOff" && (HE.dictC K "NoSpace" && (HE.subC K "BadName" "BadName" true && (LW.dictB K (He.ga K "WORDS_OF") wordsOf && true)))))))
abbrev R : PySem.W.OpenRow := PySem.W.OpenLaw.row PySem.Challenge.rw_laminae_k68_whole_torn_logs
abbrev hk : PySem.W.Hook := He.hookX 5 faL fnL [] tfL exL
def ob (s : PySem.W.SharedT) : He.AlX := He.obsX 5 faL fnL [] tfL exL (HandSHeadRun.getT s)
theorem ob_eq (s : PySem.W.SharedT) : ob s = hk.obs s.abs := He.obsX_eq (HandSHeadRun.getT_eq s)
def looseL : List PySem.Str := (["_wall", "LaminaError", "NotValid", "PowerOff", "BadName", "NoSpace", "BadImage", "ALPHABET", "BASE", "LONGEST_NAME", "is_word", "are_words", "is_name", "name_word", "word_name", "MIN_BLOCKS", "MAX_BLOCKS", "SECTOR_WORDS", "BLOCK_SECTORS", "is_size", "are_choices", "Disk", "FIRST_SECTOR", "LOG_SECTORS", "FILE", "DIRECTORY", "MAX_CELLS", "MAX_UNITS", "GREATEST_OWNER", "is_owner"] : List PySem.Str) ++ (["MAKE", "LINK", "UNLINK", "REMOVE_DIRECTORY", "MOVE", "WRITE", "RESIZE", "SHARE", "GIVE", "ERASE", "GROUP_WORDS", "WORDS_OF", "parts_for", "sectors_of", "record_sectors", "Log", "is_whole", "read_record_words", "whole_records", "is_name_word", "is_field", "is_within_bounds", "check_intent", "_law_cell", "_law_digits", "_law_intent", "_law_old_log", "_law_appended", "_law_choice", "_law_due"] : List PySem.Str)
/-- a world whose answer at one row of the text is b -/
def setF (w : World) (b : Bool) : World := { w with params := { w.params with followText := fun r => if r == "special-get-raises" then b else w.params.followText r } }
theorem setF_eq (w : World) : w = setF w (w.params.followText "special-get-raises") := by
  obtain ⟨d, p⟩ := w
  have e : (fun r : String => if r == "special-get-raises" then p.followText "special-get-raises" else p.followText r) = p.followText := funext fun r => by
    by_cases h : r = "special-get-raises"
    · subst h
      rfl
    · rw [if_neg (by simpa using h)]
  unfold setF
  rw [e]
set_option maxHeartbeats 0 in
theorem run (w : World) : HandSHeadRun.RunEq R (PySem.W.view R.prog [66]) hk ob 4000 looseL w := by
  rw [setF_eq w]
  generalize w.params.followText "special-get-raises" = b
  cases b
  · intro os
    kernel_rfl
  · intro os
    kernel_rfl
theorem facts {l : PySem.W.OpenLaw} {w : World} {K : PySem.W.Frag} {h : Heap} {mg : Str → Option Value} {fa : Addr} (X : K.In h) (G : h.Ns mainGlobals mg) (hfa : mg ("law" : Str) = some (.ref fa)) (c : He.SaysX faL fnL [] tfL exL w h K) :
    ∃ (fd : FuncData) (cs : List (Addr × Addr)) (sp : Sp), (∀ p ∈ cs, h.get? p.2 = some { cls := .none, data := .fields #[] } ∧ K.lookup p.2 = none ∧ PySem.W.CodeHd h p.1 p.2) ∧ (∀ (s : Shared) (u : Value), BindsTo s fd ⟨[u], []⟩ [("script", u)]) ∧
        (∀ (H : Hp) (a : Addr) (ns : List Int), ns.length ≤ 63 → (∀ p ∈ cs, LT.Tab H p.2) → SqL K H a (ns.map V.int) → ∀ Q : VK, (∀ H', Ex H H' → Q (.bl true) H') → sp [.ref a] H Q fun _ _ _ => False) ∧
        ∀ base : Heap, K.In base → base.Ns mainGlobals mg → (∀ p ∈ cs, LamX.TabB base mg p.1 p.2) → FnOk l.prog w K mg base CX0 11 fa fd ["script"] sp := by
  have cd := c.t.d
  obtain ⟨fd1, F1⟩ := cd.def_ 0 (d := d1) rfl
  have F1 := HE.fun_of (st := sIw) F1
  have m1 := He.glo_ok X G (cd.fact 0 (f := .glo "is_word") rfl)
  have b1 := F1.binds (ps := ["value"]) fun _ _ _ _ _ _ us hl => match us, hl with | [_], _ => rfl
  obtain ⟨fd2, F2⟩ := cd.def_ 1 (d := d2) rfl
  have F2 := HE.fun_of (st := sIs) F2
  have F2 := HE.funC_of F2
  have m2 := He.glo_ok X G (cd.fact 1 (f := .glo "is_name") rfl)
  have b2 := F2.fun.binds (ps := ["name"]) fun _ _ _ _ _ _ us hl => match us, hl with | [_], _ => rfl
  obtain ⟨fd3, F3⟩ := cd.def_ 2 (d := d3) rfl
  have F3 := HE.fun_of (st := sWord) F3
  have m3 := He.glo_ok X G (cd.fact 2 (f := .glo "name_word") rfl)
  have b3 := F3.binds (ps := ["name"]) fun _ _ _ _ _ _ us hl => match us, hl with | [_], _ => rfl
  obtain ⟨fd4, F4⟩ := cd.def_ 3 (d := d4) rfl
  have F4 := HE.fun_of (st := sWn) F4
  have m4 := He.glo_ok X G (cd.fact 3 (f := .glo "word_name") rfl)
  have b4 := F4.binds (ps := ["word"]) fun _ _ _ _ _ _ us hl => match us, hl with | [_], _ => rfl
  obtain ⟨fd5, F5⟩ := cd.def_ 4 (d := d5) rfl
  have F5 := HE.fun_of (st := sOw) F5
  have m5 := He.glo_ok X G (cd.fact 4 (f := .glo "is_owner") rfl)
  have b5 := F5.binds (ps := ["owner"]) fun _ _ _ _ _ _ us hl => match us, hl with | [_], _ => rfl
  obtain ⟨fd6, F6⟩ := cd.def_ 5 (d := d6) rfl
  have F6 := HE.fun_of (st := sInw) F6
  have m6 := He.glo_ok X G (cd.fact 5 (f := .glo "is_name_word") rfl)
  have b6 := F6.binds (ps := ["word"]) fun _ _ _ _ _ _ us hl => match us, hl with | [_], _ => rfl
  obtain ⟨fd7, F7⟩ := cd.def_ 6 (d := d7) rfl
  have F7 := HE.fun_of (st := sFld) F7
  have m7 := He.glo_ok X G (cd.fact 6 (f := .glo "is_field") rfl)
  have b7 := F7.binds (ps := ["what", "word"]) fun _ _ _ _ _ _ us hl => match us, hl with | [_, _], _ => rfl
  obtain ⟨fd8, F8⟩ := cd.def_ 7 (d := d8) rfl
  have F8 := HE.fun_of (st := sBnd) F8
  have m8 := He.glo_ok X G (cd.fact 7 (f := .glo "is_within_bounds") rfl)
  have b8 := F8.binds (ps := ["kind", "words"]) fun _ _ _ _ _ _ us hl => match us, hl with | [_, _], _ => rfl
  obtain ⟨fd9, F9⟩ := cd.def_ 8 (d := d9) rfl
  have F9 := HE.fun_of (st := sChk) F9
  have F9 := HE.funC_of F9
  have m9 := He.glo_ok X G (cd.fact 8 (f := .glo "check_intent") rfl)
  have b9 := F9.fun.binds (ps := ["words"]) fun _ _ _ _ _ _ us hl => match us, hl with | [_], _ => rfl
  obtain ⟨fd10, F10⟩ := cd.def_ 9 (d := d10) rfl
  have F10 := HE.fun_of (st := sPf) F10
  have m10 := He.glo_ok X G (cd.fact 9 (f := .glo "parts_for") rfl)
  have b10 := F10.binds (ps := ["many"]) fun _ _ _ _ _ _ us hl => match us, hl with | [_], _ => rfl
  obtain ⟨fd11, F11⟩ := cd.def_ 10 (d := d11) rfl
  have F11 := HE.fun_of (st := sSo) F11
  have m11 := He.glo_ok X G (cd.fact 10 (f := .glo "sectors_of") rfl)
  have b11 := F11.binds (ps := ["intent"]) fun _ _ _ _ _ _ us hl => match us, hl with | [_], _ => rfl
  obtain ⟨fd12, F12⟩ := cd.def_ 11 (d := d12) rfl
  have F12 := HE.fun_of (st := sRs) F12
  have m12 := He.glo_ok X G (cd.fact 11 (f := .glo "record_sectors") rfl)
  have b12 := F12.binds (ps := ["intent", "record", "generation"]) fun _ _ _ _ _ _ us hl => match us, hl with | [_, _, _], _ => rfl
  obtain ⟨fd13, F13⟩ := cd.def_ 12 (d := d13) rfl
  have F13 := HE.fun_of (st := sIwh) F13
  have m13 := He.glo_ok X G (cd.fact 12 (f := .glo "is_whole") rfl)
  have b13 := F13.binds (ps := ["sectors", "record", "generation"]) fun _ _ _ _ _ _ us hl => match us, hl with | [_, _, _], _ => rfl
  obtain ⟨fd14, F14⟩ := cd.def_ 13 (d := d14) rfl
  have F14 := HE.fun_of (st := sRr) F14
  have m14 := He.glo_ok X G (cd.fact 13 (f := .glo "read_record_words") rfl)
  have b14 := F14.binds (ps := ["sectors"]) fun _ _ _ _ _ _ us hl => match us, hl with | [_], _ => rfl
  obtain ⟨fd15, F15⟩ := cd.def_ 14 (d := d15) rfl
  have F15 := HE.fun_of (st := sWre) F15
  have m15 := He.glo_ok X G (cd.fact 14 (f := .glo "whole_records") rfl)
  have b15 := F15.binds (ps := ["sectors", "generation"]) fun _ _ _ _ _ _ us hl => match us, hl with | [_, _], _ => rfl
  obtain ⟨fd16, F16⟩ := cd.def_ 15 (d := d16) rfl
  have F16 := HE.fun_of (st := sLin) F16
  have b16 := F16.binds (ps := ["self", "generation"]) fun _ _ _ _ _ _ us hl => match us, hl with | [_, _], _ => rfl
  obtain ⟨fd17, F17⟩ := cd.def_ 16 (d := d17) rfl
  have F17 := HE.fun_of (st := sFits) F17
  have F17 := HE.funC_of F17
  have m17 := He.meth_ok (cd.fact 15 (f := .meth "Log" "fits") rfl)
  have b17 := F17.fun.binds (ps := ["self", "intents"]) fun _ _ _ _ _ _ us hl => match us, hl with | [_, _], _ => rfl
  obtain ⟨fd18, F18⟩ := cd.def_ 17 (d := d18) rfl
  have F18 := HE.fun_of (st := sApp) F18
  have m18 := He.meth_ok (cd.fact 16 (f := .meth "Log" "append_records") rfl)
  have b18 := F18.binds (ps := ["self", "intents"]) fun _ _ _ _ _ _ us hl => match us, hl with | [_, _], _ => rfl
  obtain ⟨fd19, F19⟩ := cd.def_ 18 (d := d19) rfl
  have F19 := HE.fun_of (st := sAre) F19
  have F19 := HE.funC_of F19
  have m19 := He.glo_ok X G (cd.fact 17 (f := .glo "are_words") rfl)
  have b19 := F19.fun.binds (ps := ["values", "many"]) fun _ _ _ _ _ _ us hl => match us, hl with | [_, _], _ => rfl
  obtain ⟨fd20, F20⟩ := cd.def_ 19 (d := d20) rfl
  have F20 := HE.fun_of (st := sSize) F20
  have m20 := He.glo_ok X G (cd.fact 18 (f := .glo "is_size") rfl)
  have b20 := F20.binds (ps := ["blocks"]) fun _ _ _ _ _ _ us hl => match us, hl with | [_], _ => rfl
  obtain ⟨fd21, F21⟩ := cd.def_ 20 (d := d21) rfl
  have F21 := HE.fun_of (st := sChs) F21
  have F21 := HE.funC_of F21
  have m21 := He.glo_ok X G (cd.fact 19 (f := .glo "are_choices") rfl)
  have b21 := F21.fun.binds (ps := ["choices"]) fun _ _ _ _ _ _ us hl => match us, hl with | [_], _ => rfl
  obtain ⟨fd22, F22⟩ := cd.def_ 21 (d := d22) rfl
  have F22 := HE.fun_of (st := sInit) F22
  have b22 := F22.binds (ps := ["self", "blocks"]) fun _ _ _ _ _ _ us hl => match us, hl with | [_, _], _ => rfl
  obtain ⟨fd23, F23⟩ := cd.def_ 22 (d := d23) rfl
  have F23 := HE.fun_of (st := sRead) F23
  have m23 := He.meth_ok (cd.fact 20 (f := .meth "Disk" "read") rfl)
  have b23 := F23.binds (ps := ["self", "sector"]) fun _ _ _ _ _ _ us hl => match us, hl with | [_, _], _ => rfl
  obtain ⟨fd24, F24⟩ := cd.def_ 23 (d := d24) rfl
  have F24 := HE.fun_of (st := sWrite) F24
  have m24 := He.meth_ok (cd.fact 21 (f := .meth "Disk" "write") rfl)
  have b24 := F24.binds (ps := ["self", "sector", "words"]) fun _ _ _ _ _ _ us hl => match us, hl with | [_, _, _], _ => rfl
  obtain ⟨fd25, F25⟩ := cd.def_ 24 (d := d25) rfl
  have F25 := HE.fun_of (st := sFlush) F25
  have m25 := He.meth_ok (cd.fact 22 (f := .meth "Disk" "flush") rfl)
  have b25 := F25.binds (ps := ["self"]) fun _ _ _ _ _ _ us hl => match us, hl with | [_], _ => rfl
  obtain ⟨fd26, F26⟩ := cd.def_ 25 (d := d26) rfl
  have F26 := HE.fun_of (st := sWait) F26
  have m26 := He.meth_ok (cd.fact 23 (f := .meth "Disk" "waiting") rfl)
  have b26 := F26.binds (ps := ["self"]) fun _ _ _ _ _ _ us hl => match us, hl with | [_], _ => rfl
  obtain ⟨fd27, F27⟩ := cd.def_ 26 (d := d27) rfl
  have F27 := HE.fun_of (st := sCut) F27
  have m27 := He.meth_ok (cd.fact 24 (f := .meth "Disk" "cut") rfl)
  have b27 := F27.binds (ps := ["self", "choices"]) fun _ _ _ _ _ _ us hl => match us, hl with | [_, _], _ => rfl
  obtain ⟨fd28, F28⟩ := cd.def_ 27 (d := d28) rfl
  have F28 := HE.fun_of (st := sSec) F28
  have m28 := He.meth_ok (cd.fact 25 (f := .meth "Disk" "_is_sector") rfl)
  have b28 := F28.binds (ps := ["self", "sector"]) fun _ _ _ _ _ _ us hl => match us, hl with | [_, _], _ => rfl
  obtain ⟨fd29, F29⟩ := cd.def_ 28 (d := d29) rfl
  have F29 := HE.fun_of (st := sBeg) F29
  have m29 := He.meth_ok (cd.fact 26 (f := .meth "Disk" "_begin_operation") rfl)
  have b29 := F29.binds (ps := ["self"]) fun _ _ _ _ _ _ us hl => match us, hl with | [_], _ => rfl
  obtain ⟨fd30, F30⟩ := cd.def_ 29 (d := d30) rfl
  have F30 := HE.fun_of (st := sSet) F30
  have m30 := He.meth_ok (cd.fact 27 (f := .meth "Disk" "_settle_writes") rfl)
  have b30 := F30.binds (ps := ["self", "choices"]) fun _ _ _ _ _ _ us hl => match us, hl with | [_, _], _ => rfl
  obtain ⟨fd31, F31⟩ := cd.def_ 30 (d := d31) rfl
  have F31 := HE.fun_of (st := sCl) F31
  have m31 := He.glo_ok X G (cd.fact 28 (f := .glo "_law_cell") rfl)
  have b31 := F31.binds (ps := ["script", "k"]) fun _ _ _ _ _ _ us hl => match us, hl with | [_, _], _ => rfl
  obtain ⟨fd32, F32⟩ := cd.def_ 31 (d := d32) rfl
  have F32 := HE.fun_of (st := sDg) F32
  have m32 := He.glo_ok X G (cd.fact 29 (f := .glo "_law_digits") rfl)
  have b32 := F32.binds (ps := ["cell", "bases"]) fun _ _ _ _ _ _ us hl => match us, hl with | [_, _], _ => rfl
  obtain ⟨fd33, F33⟩ := cd.def_ 32 (d := d33) rfl
  have F33 := HE.fun_of (st := sIn) F33
  have m33 := He.glo_ok X G (cd.fact 30 (f := .glo "_law_intent") rfl)
  have b33 := F33.binds (ps := ["cell", "most"]) fun _ _ _ _ _ _ us hl => match us, hl with | [_, _], _ => rfl
  obtain ⟨fd34, F34⟩ := cd.def_ 33 (d := d34) rfl
  have F34 := HE.fun_of (st := sOld) F34
  have m34 := He.glo_ok X G (cd.fact 31 (f := .glo "_law_old_log") rfl)
  have b34 := F34.binds (ps := ["disk", "cell", "generation"]) fun _ _ _ _ _ _ us hl => match us, hl with | [_, _, _], _ => rfl
  obtain ⟨fd35, F35⟩ := cd.def_ 34 (d := d35) rfl
  have F35 := HE.fun_of (st := sAp) F35
  have m35 := He.glo_ok X G (cd.fact 32 (f := .glo "_law_appended") rfl)
  have b35 := F35.binds (ps := ["disk", "log", "intents"]) fun _ _ _ _ _ _ us hl => match us, hl with | [_, _, _], _ => rfl
  obtain ⟨fd36, F36⟩ := cd.def_ 35 (d := d36) rfl
  have F36 := HE.fun_of (st := sCho) F36
  have m36 := He.glo_ok X G (cd.fact 33 (f := .glo "_law_choice") rfl)
  have b36 := F36.binds (ps := ["cell"]) fun _ _ _ _ _ _ us hl => match us, hl with | [_], _ => rfl
  obtain ⟨fd37, F37⟩ := cd.def_ 36 (d := d37) rfl
  have F37 := HE.fun_of (st := sLdu) F37
  have m37 := He.glo_ok X G (cd.fact 34 (f := .glo "_law_due") rfl)
  have b37 := F37.binds (ps := ["intents", "choices"]) fun _ _ _ _ _ _ us hl => match us, hl with | [_, _], _ => rfl
  obtain ⟨fd38, F38⟩ := cd.def_ 37 (d := d38) rfl
  have F38 := HE.fun_of (st := sLaw) F38
  have m38 := He.glo_ok X G (cd.fact 35 (f := .glo "law") rfl)
  have bl := HE.binds1 (y := "script") F38 fun _ _ _ _ _ _ _ => rfl
  have e := hfa.symm.trans m38
  cases e
  have clC := He.cls_ok (cd.fact 74 (f := .cls "Disk") rfl)
  have n0C := He.noat_ok (cd.fact 76 (f := .noat "Disk" "blocks") rfl)
  have n1C := He.noat_ok (cd.fact 77 (f := .noat "Disk" "_kept") rfl)
  have n2C := He.noat_ok (cd.fact 78 (f := .noat "Disk" "_shown") rfl)
  have n3C := He.noat_ok (cd.fact 79 (f := .noat "Disk" "_writes") rfl)
  have n4C := He.noat_ok (cd.fact 80 (f := .noat "Disk" "_powered") rfl)
  have n5C := He.noat_ok (cd.fact 81 (f := .noat "Disk" "_before_failure") rfl)
  have mgC := He.glo_ok X G (cd.fact 73 (f := .glo "Disk") rfl)
  have MC := He.mkr_ok (cd.fact 82 (f := .mkr "Disk") rfl)
  have clD := He.cls_ok (cd.fact 84 (f := .cls "Log") rfl)
  have n0D := He.noat_ok (cd.fact 86 (f := .noat "Log" "generation") rfl)
  have n1D := He.noat_ok (cd.fact 87 (f := .noat "Log" "next_sector") rfl)
  have n2D := He.noat_ok (cd.fact 88 (f := .noat "Log" "next_record") rfl)
  have mgD := He.glo_ok X G (cd.fact 83 (f := .glo "Log") rfl)
  have MD := He.mkr_ok (cd.fact 89 (f := .mkr "Log") rfl)
  have ex := c.more
  unfold exL at ex
  obtain ⟨xdB, ex⟩ := He.ba ex
  obtain ⟨xdI, ex⟩ := He.ba ex
  obtain ⟨xdN, ex⟩ := He.ba ex
  obtain ⟨xdO, ex⟩ := He.ba ex
  obtain ⟨xdS, ex⟩ := He.ba ex
  obtain ⟨sBB, ex⟩ := He.ba ex
  obtain ⟨dWO, ex⟩ := He.ba ex
  have XB := HE.xc_of X G (cd.fact 90 (f := .glo "BadName") rfl) (cd.fact 91 (f := .exc "BadName") rfl) xdB
  have XI := HE.xc_of X G (cd.fact 92 (f := .glo "BadImage") rfl) (cd.fact 93 (f := .exc "BadImage") rfl) xdI
  have XN := HE.xc_of X G (cd.fact 94 (f := .glo "NotValid") rfl) (cd.fact 95 (f := .exc "NotValid") rfl) xdN
  have XO := HE.xc_of X G (cd.fact 96 (f := .glo "PowerOff") rfl) (cd.fact 97 (f := .exc "PowerOff") rfl) xdO
  have XS := HE.xc_of X G (cd.fact 98 (f := .glo "NoSpace") rfl) (cd.fact 99 (f := .exc "NoSpace") rfl) xdS
  have sBB := HE.subC_ok sBB
  obtain ⟨tA, hAL⟩ := He.str_ok X G (cd.fact 71 (f := .str "ALPHABET" "abcdefghijklmnopqrstuvwxyz0123456789._-") rfl)
  have T : Txt mg K tA (He.ga K "WORDS_OF") := ⟨He.free_ok X G (cd.fact 36 (f := .free "len") rfl), He.free_ok X G (cd.fact 37 (f := .free "range") rfl), He.free_ok X G (cd.fact 38 (f := .free "isinstance") rfl), He.free_ok X G (cd.fact 39 (f := .free "bool") rfl), He.free_ok X G (cd.fact 40 (f := .free "int") rfl), He.free_ok X G (cd.fact 41 (f := .free "all") rfl), He.free_ok X G (cd.fact 42 (f := .free "any") rfl), He.free_ok X G (cd.fact 43 (f := .free "divmod") rfl), He.free_ok X G (cd.fact 44 (f := .free "zip") rfl), He.free_ok X G (cd.fact 45 (f := .free "tuple") rfl), He.free_ok X G (cd.fact 46 (f := .free "list") rfl), He.free_ok X G (cd.fact 47 (f := .free "min") rfl), He.free_ok X G (cd.fact 48 (f := .free "str") rfl), He.int_ok X G (cd.fact 54 (f := .int "GROUP_WORDS" 4) rfl), He.int_ok X G (cd.fact 55 (f := .int "BASE" 40) rfl), He.int_ok X G (cd.fact 56 (f := .int "LONGEST_NAME" 11) rfl), He.int_ok X G (cd.fact 57 (f := .int "FILE" 1) rfl), He.int_ok X G (cd.fact 58 (f := .int "DIRECTORY" 2) rfl), He.int_ok X G (cd.fact 59 (f := .int "MAX_CELLS" 2048) rfl), He.int_ok X G (cd.fact 60 (f := .int "MAX_UNITS" 64) rfl), He.int_ok X G (cd.fact 61 (f := .int "GREATEST_OWNER" 255) rfl), He.int_ok X G (cd.fact 62 (f := .int "WRITE" 6) rfl), He.int_ok X G (cd.fact 63 (f := .int "RESIZE" 7) rfl), He.int_ok X G (cd.fact 64 (f := .int "SHARE" 8) rfl), hAL, He.glo_ok X G (cd.fact 72 (f := .glo "WORDS_OF") rfl), ⟨dWO, by decide⟩⟩
  have TD : K68D.Txt mg K (He.ga K "Disk") := ⟨T.len, T.range, T.tuple, T.list, He.free_ok X G (cd.fact 49 (f := .free "dict") rfl), T.isinstance, T.zip, He.free_ok X G (cd.fact 50 (f := .free "abs") rfl), T.int, T.bool, T.min, T.all, He.free_ok X G (cd.fact 51 (f := .free "max") rfl), He.free_ok X G (cd.fact 52 (f := .free "enumerate") rfl), He.int_ok X G (cd.fact 65 (f := .int "MIN_BLOCKS" 96) rfl), He.int_ok X G (cd.fact 66 (f := .int "MAX_BLOCKS" 256) rfl), He.int_ok X G (cd.fact 67 (f := .int "SECTOR_WORDS" 8) rfl), He.int_ok X G (cd.fact 68 (f := .int "BLOCK_SECTORS" 4) rfl), clC, n0C, n1C, n2C, n3C, n4C, n5C, mgC⟩
  have TL : TxL mg K (He.ga K "Log") := ⟨He.free_ok X G (cd.fact 53 (f := .free "sum") rfl), He.int_ok X G (cd.fact 69 (f := .int "FIRST_SECTOR" 4) rfl), He.int_ok X G (cd.fact 70 (f := .int "LOG_SECTORS" 16) rfl), clD, n0D, n1D, n2D, mgD⟩
  refine ⟨fd38, [He.cT K ("is_name", none), He.cT K ("check_intent", none), He.cT K ("Log", some "fits"), He.cT K ("are_words", none), He.cT K ("are_choices", none)], spLaw K (He.cT K ("is_name", none)).2 (He.cT K ("check_intent", none)).2 (He.cT K ("Log", some "fits")).2 (He.cT K ("are_words", none)).2 (He.cT K ("are_choices", none)).2, fun p hp => ?_, bl, fun H a ns hl hT hS Q q => ⟨a, ns, rfl, hS, hl, hT (He.cT K ("is_name", none)) (by simp), hT (He.cT K ("check_intent", none)) (by simp), hT (He.cT K ("Log", some "fits")) (by simp), hT (He.cT K ("are_words", none)) (by simp), hT (He.cT K ("are_choices", none)) (by simp), q⟩, fun base hKb hGb hTB => ?_⟩
  · obtain ⟨t, ht, rfl⟩ : ∃ t ∈ tfL, He.cT K t = p := by
      simp only [List.mem_cons, List.not_mem_nil, or_false] at hp
      rcases hp with hp | hp | hp | hp | hp
      · exact ⟨("is_name", none), by simp [tfL], hp.symm⟩
      · exact ⟨("check_intent", none), by simp [tfL], hp.symm⟩
      · exact ⟨("Log", some "fits"), by simp [tfL], hp.symm⟩
      · exact ⟨("are_words", none), by simp [tfL], hp.symm⟩
      · exact ⟨("are_choices", none), by simp [tfL], hp.symm⟩
    exact ⟨c.empty t ht, c.out t ht, PySem.W.codeHd_of_K X (c.hd t ht)⟩
  · have B1 : LamX.TabB base mg (He.codeOf K ("is_name", none)) (He.cT K ("is_name", none)).2 := hTB (He.cT K ("is_name", none)) (by simp)
    have B2 : LamX.TabB base mg (He.codeOf K ("check_intent", none)) (He.cT K ("check_intent", none)).2 := hTB (He.cT K ("check_intent", none)) (by simp)
    have B3 : LamX.TabB base mg (He.codeOf K ("Log", some "fits")) (He.cT K ("Log", some "fits")).2 := hTB (He.cT K ("Log", some "fits")) (by simp)
    have B4 : LamX.TabB base mg (He.codeOf K ("are_words", none)) (He.cT K ("are_words", none)).2 := hTB (He.cT K ("are_words", none)) (by simp)
    have B5 : LamX.TabB base mg (He.codeOf K ("are_choices", none)) (He.cT K ("are_choices", none)).2 := hTB (He.cT K ("are_choices", none)) (by simp)
    exact (have GJ := ok_iw (P := l.prog) (w := w) (base := base) F1 T; have GI := ok_is (P := l.prog) (w := w) (base := base) F2 B1 T; have GW := ok_word F3 F2.fun GI b2 m2 T XB; have GY := ok_wn F4 F1 b1 m1 F3 GW b3 m3 T XB; have GOw := ok_ow F5 F1 GJ b1 m1 T; have GNw := ok_inw F6 F4 GY b4 m4 T XB sBB; have GFl := ok_fld F7 F6 GNw b6 m6 F5 GOw b5 m5 T; have GBn := ok_bnd (P := l.prog) (w := w) (base := base) F8 T; have GCk := ok_chk F9 B2 F1 GJ b1 m1 F7 GFl b7 m7 F8 GBn b8 m8 T; have GPf := ok_pf (P := l.prog) (w := w) (base := base) F10 T; have GSo := ok_so F11 F10 b10 m10 GPf T; have GRs := ok_rs F12 F11 b11 m11 GSo T; have GIw := ok_iwh (P := l.prog) (w := w) (base := base) F13 T; have GRr := ok_rr F14 F10 b10 m10 GPf F9.fun GCk b9 m9 T XI; have GWr := ok_wre F15 F13 GIw b13 m13 F14 GRr b14 m14 T; have GLin := ok_lin (P := l.prog) (w := w) (base := base) F16 TL; have GFi := ok_fits F17 B3 F11 b11 m11 GSo TL; have GApp := ok_app F18 GFi b17 m17 F12 b12 m12 GRs TL XS; have GAw := K68D.ok_are (P := l.prog) (w := w) (base := base) F19 B4 TD F1 b1 m1; have GSz := K68D.ok_size (P := l.prog) (w := w) (base := base) F20 F1 b1 m1 TD; have GAc := K68D.ok_chs (P := l.prog) (w := w) (base := base) F21 B5 TD F1 b1 m1; have GSec := K68D.ok_sec (P := l.prog) (w := w) (base := base) F28 F1 b1 m1 TD; have GBg := K68D.ok_beg (P := l.prog) (w := w) (base := base) F29 TD XO; have GRd := K68D.ok_read F23 GSec b28 m28 TD XO XN; have GWd := K68D.ok_write F24 GSec b28 m28 F19.fun GAw b19 m19 GBg b29 m29 TD XN; have GSt := K68D.ok_set (P := l.prog) (w := w) (base := base) F30 TD; have GFsh := K68D.ok_flush F25 GBg b29 m29 GSt b30 m30 TD; have GCu := K68D.ok_cut F27 F21.fun GAc b21 m21 GSt b30 m30 TD XN; have GDin := K68D.ok_init F22 F20 GSz b20 m20 TD XN; have GWt := K68D.ok_wait (P := l.prog) (w := w) (base := base) F26 TD; have GCl := ok_cl (P := l.prog) (w := w) (base := base) F31 T; have GDg := ok_dg (P := l.prog) (w := w) (base := base) F32 T; have GIn := ok_in F33 F32 b32 m32 GDg T; have GOld := ok_old F34 F33 GIn b33 m33 F12 GRs b12 m12 GWd b24 m24 GFsh b25 m25 T TD; have GAp := ok_ap F35 GApp b18 m18 GWd b24 m24 T TD TL; have GCho := ok_cho F36 F32 b32 m32 GDg T; have GDu := ok_ldu (P := l.prog) (w := w) (base := base) F37 T; ok_law F38 F31 GCl b31 m31 F33 GIn b33 m33 F34 GOld b34 m34 F35 GAp b35 m35 F36 GCho b36 m36 F37 GDu b37 m37 F15 GWr b15 m15 MC GDin b22 MD GLin b16 GFsh b25 m25 GCu b27 m27 GRd b23 m23 GWt b26 m26 T TD TL)
end K68
open PySem PySem.W PySem.Calls PyProof.Rows
set_option maxHeartbeats 0 in
theorem PySem.Challenge.cw_laminae_k68_whole_torn_logs_holds : PySem.Challenge.rw_laminae_k68_whole_torn_logs.Holds := by
  w_on; o_law
  refine HandSHeadRun.head_any (r := OpenLaw.row PySem.Challenge.rw_laminae_k68_whole_torn_logs) (q := view (OpenLaw.row PySem.Challenge.rw_laminae_k68_whole_torn_logs).prog [66]) (H := K68.hk) (ob := K68.ob) (M := 4000) (loose := K68.looseL) (d := HandSHeadRun.topDef (OpenLaw.row PySem.Challenge.rw_laminae_k68_whole_torn_logs).prog 66) (kwd := []) K68.ob_eq
    (by kernel_rfl) (fun s => by kernel_rfl) K68.run (by kernel_rfl) (by kernel_rfl) (by kernel_rfl) (by rfl) (by first | assumption | decide +kernel) (by decide +kernel) ⟨rfl, rfl, rfl, rfl, rfl, by decide +kernel⟩ ?hw ?hc
  case hw => w_witness2
  case hc =>
    refine HE.walk_facts (l := PySem.Challenge.rw_laminae_k68_whole_torn_logs) (n := 63) (k := 11) (x := "script") rfl (by decide) (by kernel_rfl) ⟨rfl, by decide, by decide⟩ ?F
    intro w mg fa h Y G hmg0
    obtain ⟨K, KX, c⟩ := Y
    have hmg : mg ("law" : PySem.Str) = some (.ref fa) := by
      have e : (HandSHeadRun.topDef (OpenLaw.row PySem.Challenge.rw_laminae_k68_whole_torn_logs).prog 66).name = ("law" : PySem.Str) := by kernel_rfl
      rw [← e]
      exact hmg0
    obtain ⟨fd, cs, sp, h1, h2, h3, h4⟩ := K68.facts (l := PySem.Challenge.rw_laminae_k68_whole_torn_logs) KX G hmg c
    exact ⟨K, fd, cs, sp, KX, h1, h2, h3, h4⟩

