import PyProof.Rows.All
import Wide.All
import OpenK.AllK
import Wide.FinOn
import HandS.ForMost
import HandS.Evl
import HandS.TupLe
import HandS.IsInst
import HandS.AnyAll
import HandS.EndOwn
import HandS.StrMore
import HandS.Conv
import HandS.Sort
import HandS.Star
import HandS.WordsExc
import HandS.ExcIs
import HandS.Wide
import HandS.ExcOwn
import HandS.TryOnly
import HandS.GenList
import HandS.HotCalls
import HandS.Walk
import PyProof.WalksPairs
import KE.KStateDown
import Lean
import HandS.Defaults
import HandS.Head0
import HandS.Head1
import HandS.Head2
import HandS.Head3
import HandS.HeadEnd
import HandS.HeadHook1
import HandS.HeadHook2
import HandS.HeadHook3
import HandS.HeadHook4
import HandS.HeadWalk
import HandS.Lambda
import HandS.EndTab
import PySem.Challenge.RW_laminae_k53_open_files
import HandS.WordsDict
set_option Elab.async false
set_option linter.all false
set_option maxRecDepth 100000
set_option maxHeartbeats 4000000
namespace LT
open PySem PySem.Spec PyProof.Rows L2 Evl
/-! ### the table of a code object: whatever it holds -/
def TabPhi (P : Addr) (h : Heap) : Prop := ∃ ps : Array Value, h.get? P = some { cls := .none, data := .fields ps } ∧ TriplesOk ps.toList
def Tab (H : Hp) (P : Addr) : Prop := H P = some (.ext (TabPhi P))
theorem tab_stab (P : Addr) : ∀ h1 h2 : Heap, TabPhi P h1 → (∀ o, h1.get? P = some o → h2.get? P = some o) → TabPhi P h2 := fun _ _ ⟨ps, e, t⟩ k => ⟨ps, k _ e, t⟩
theorem tab_ok {p : Program} {w : World} {H : Hp} {h : Heap} {P : Addr} (t : TabPhi P h) : ObjOk p w H h P (.ext (TabPhi P)) := ⟨t, ⟨_, t.choose_spec.1⟩, tab_stab P⟩
theorem Tab.of_ok {p : Program} {w : World} {H : Hp} {h : Heap} {P : Addr} (t : Tab H P) (ok : HOk p w H h) : TabPhi P h := (ok P _ t).1
theorem Tab.mono {H H' : Hp} {P : Addr} (e : Ex H H') (t : Tab H P) : Tab H' P := e _ _ t
open Classical in
def extH (Ps : List Addr) (H : Hp) : Hp := fun b => if b ∈ Ps then some (.ext (TabPhi b)) else H b
theorem extH_in {Ps : List Addr} {H : Hp} {b : Addr} (h : b ∈ Ps) : extH Ps H b = some (.ext (TabPhi b)) := if_pos h
theorem extH_out {Ps : List Addr} {H : Hp} {b : Addr} (h : b ∉ Ps) : extH Ps H b = H b := if_neg h
/-- a promise over heaps whose tables are opaque, for a caller whose tables are all empty -/
def spExt (Ps : List Addr) (sp : Sp) : Sp := fun vs H Q E => (∀ p ∈ Ps, H p = some (.tbl #[])) ∧ sp vs (extH Ps H) (fun v H' => (∀ p ∈ Ps, Tab H' p) ∧ ∀ H2, Q v H2) E
section
variable {P : Program} {w : World} {K : PySem.W.Frag} {mg : Str → Option Value} {base : Heap}
theorem ok_ext {Ps : List Addr} {k : Nat} {f : Addr} {fd : FuncData} {ps : List Str} {sp : Sp} (F : FnOk P w K mg base CX0 k f fd ps sp) : FnOk P w K mg base CX0 k f fd ps (spExt Ps sp) := by
  refine ⟨fun vs H Q E h => F.len _ _ _ _ h.2, fun A outer s H args us vs Q E hr e0 hb hv ⟨hT, hs⟩ => ?_⟩
  have none_ : ∀ {b : Addr}, H b = none → extH Ps H b = none := fun {b} n => by
    rw [extH_out fun hb => by rw [hT b hb] at n; cases n]
    exact n
  have same : ∀ {b : Addr} {u : HO}, H b = some u → (∀ q, u ≠ .tbl q) → extH Ps H b = some u := fun {b u} e n => by
    rw [extH_out fun hb => by rw [hT b hb] at e; exact n _ (Option.some.inj e).symm]
    exact e
  have ok1 : HOk P w (extH Ps H) s.heap := fun b u e => by
    by_cases hb : b ∈ Ps
    · rw [extH_in hb] at e
      cases e
      exact tab_ok ⟨#[], e0.hok b _ (hT b hb), by simp [TriplesOk]⟩
    · rw [extH_out hb] at e
      exact (e0.hok b u e).stay (fun _ _ _ q => q) (fun c q => same q (fun z y => by cases y)) fun c xs q => same q (fun z y => by cases y)
  have e1 : Env0 P w K mg base A outer s (extH Ps H) := ⟨e0.frames, e0.mod, fun b o e => ⟨(e0.bs b o e).1, none_ (e0.bs b o e).2⟩, e0.bsz, e0.funs, fun b hb => none_ (e0.frf b hb), ok1, e0.bare⟩
  refine codeAny_mono (F.run A outer s (extH Ps H) args us vs _ E hr e1 hb hv hs) fun r s' h => ?_
  cases r with
  | error e => exact h.elim
  | ok fl =>
    cases fl with
    | next => exact h
    | brk => exact h
    | cont => exact h
    | ret u =>
      obtain ⟨v, H', os, bare, un, ok', rv, hTab, q⟩ := h
      have more : ∀ p ∈ Ps, TabPhi p s'.heap := fun p hp => (hTab p hp).of_ok ok'
      let H2 : Hp := fun b => if hb : b ∈ Ps then some (.tbl (more b hb).choose) else H' b
      have hin : ∀ {b : Addr} (hb : b ∈ Ps), H2 b = some (.tbl (more b hb).choose) := fun {b} hb => dif_pos hb
      have hout : ∀ {b : Addr}, b ∉ Ps → H2 b = H' b := fun {b} hb => dif_neg hb
      have keepH : ∀ {b : Addr} {u : HO}, H' b = some u → (∀ φ, u ≠ .ext φ) → H2 b = some u := fun {b u} e n => by
        rw [hout fun hb => by rw [hTab b hb] at e; exact n _ (Option.some.inj e).symm]
        exact e
      refine ⟨v, H2, os, bare, ⟨fun b o e n => un.keep b o e (none_ n), fun b o e n => un.slot b o e (none_ n), fun b o e n hx => ?_, un.there, fun b xs e => ?_, fun b o x e => ?_, fun b q e => ?_⟩, fun b y e => ?_, rv, q H2⟩
      · have n' := none_ n
        rw [hout fun hb => by rw [hT b hb] at n; cases n]
        exact un.free b o e n' hx
      · exact keepH (un.tups b xs (same e (fun z y => by cases y))) (fun z y => by cases y)
      · exact keepH (un.frzs b o x (same e (fun z y => by cases y))) (fun z y => by cases y)
      · by_cases hb : b ∈ Ps
        · rw [hT b hb] at e
          cases e
          exact ⟨(more b hb).choose, by rw [hin hb, Array.empty_append]⟩
        · obtain ⟨m, z⟩ := un.tbls b q (by rw [extH_out hb]; exact e)
          exact ⟨m, by rw [hout hb]; exact z⟩
      · by_cases hb : b ∈ Ps
        · rw [hin hb] at e
          cases e
          exact (more b hb).choose_spec.1
        · rw [hout hb] at e
          exact (ok' b y e).stay (fun _ _ _ q => q) (fun c q => keepH q (fun z y => by cases y)) fun c xs q => keepH q (fun z y => by cases y)
end
/-- the law's walk where top-level defs (names) hold generator expressions: their tables are empty at the start -/
theorem walk_tabs {l : PySem.W.OpenLaw} {n k : Nat} {q : Program} {loose : List Str} {XP : (Str → Option Value) → Heap → Prop} {YP : World → Heap → Prop} {d : DefRec} {K : Params → PySem.W.Frag} {x : Str} (names : List Str)
    (hn : l.most = some n) (hn2 : n ≤ sizeLine) (hdf : d.params.defaults = []) (hr : Room k callerA) (hrec : ∀ y ∈ names, ((recsOf q).find? fun e => e.name == y).isSome = true) (hY : ∀ (w : World) (h : Heap), YP w h → (K w.params).In h)
    (F : ∀ (w : World) (mg : Str → Option Value) (fa : Addr) (h : Heap), (K w.params).In h → h.Ns mainGlobals mg → mg d.name = some (.ref fa) →
      ∃ (fd : FuncData) (cs : List (Str × Addr × Addr)) (sp : Sp), (∀ p ∈ cs, p.1 ∈ names ∧ PySem.W.tabIn (K w.params) p.1 = some p.2 ∧ (K w.params).lookup p.2.2 = none) ∧ (∀ (s : Shared) (u : Value), BindsTo s fd ⟨[u], []⟩ [(x, u)]) ∧
        (∀ (H : Hp) (a : Addr) (ns : List Int), ns.length ≤ n → (∀ p ∈ cs, Tab H p.2.2) → SqL (K w.params) H a (ns.map V.int) → ∀ Q : VK, (∀ H', Ex H H' → Q (.bl true) H') → sp [.ref a] H Q fun _ _ _ => False) ∧
        ∀ base : Heap, (K w.params).In base → base.Ns mainGlobals mg → (∀ p ∈ cs, LamX.TabB base mg p.2.1 p.2.2) → FnOk l.prog w (K w.params) mg base CX0 k fa fd [x] sp) :
    PySem.W.WalkO q loose XP YP l.row.toRowW d [] (fun f vs => PySem.call f vs) := by
  refine Att.attach_callB hn hdf fun w s₀ s₁ mg mb fa o pm cd doc a vs ns G Y ho hd hcd hmg hobj hints hlen hbits hg => ?_
  have KX := hY w _ Y
  obtain ⟨fd, cs, sp, hcs, hb, hsp, hF⟩ := F w mg fa _ KX G.T.g hmg
  have two : ∀ p ∈ cs, PySem.W.CodeHd s₁.heap p.2.1 p.2.2 ∧ s₁.heap.get? p.2.2 = some { cls := .none, data := .fields #[] } := fun p hp => by
    obtain ⟨h1, h2, _⟩ := hcs p hp
    obtain ⟨e, he⟩ := Option.isSome_iff_exists.mp (hrec _ h1)
    exact PySem.W.tab_of G.T KX he h2
  have mem : ∀ y ∈ cs.map (fun p => (p.2.1, p.2.2)), ∃ p ∈ cs, p.2 = y := fun y hy => by
    obtain ⟨p, hp, e⟩ := List.mem_map.mp hy
    exact ⟨p, hp, by rw [← e]⟩
  have lim : ∀ b ∈ cs.map (fun p => p.2.2), ∃ p ∈ cs, p.2.2 = b := fun b hb => by
    obtain ⟨p, hp, e⟩ := List.mem_map.mp hb
    exact ⟨p, hp, e⟩
  refine LamX.law_callTs (cs := cs.map fun p => (p.2.1, p.2.2)) (CX := CX0) (sp := spExt (cs.map fun p => p.2.2) sp) KX G.T.g G.T.b G.T.builtins G.T.nolimit hg (fun y hy => ?_) (fun y hy => ?_) (fun y hy => ?_) G.T.bmain hobj hints (Nat.le_trans hlen hn2) hr
    (fun base h1 h2 h3 => ok_ext (hF base h1 h2 fun p hp => h3 (p.2.1, p.2.2) (List.mem_map.mpr ⟨p, hp, rfl⟩))) hb (fun H hH hS => ?_) fun H e s' z => z
  · obtain ⟨p, hp, rfl⟩ := mem y hy
    exact (two p hp).2
  · obtain ⟨p, hp, rfl⟩ := mem y hy
    exact (hcs p hp).2.2
  · obtain ⟨p, hp, rfl⟩ := mem y hy
    exact (two p hp).1
  · refine ⟨fun b hb => ?_, ?_⟩
    · obtain ⟨p, hp, rfl⟩ := lim b hb
      exact hH (p.2.1, p.2.2) (List.mem_map.mpr ⟨p, hp, rfl⟩)
    · have hnt : ∀ p ∈ cs, extH (cs.map fun p => p.2.2) H p.2.2 = some (.ext (TabPhi p.2.2)) := fun p hp => extH_in (List.mem_map.mpr ⟨p, hp, rfl⟩)
      refine hsp _ a ns hlen hnt ?_ _ fun H' e => ⟨fun b hb => ?_, fun _ => rfl⟩
      · rcases hS with (h | ⟨o, h⟩) | h
        · refine .inl (.inl ?_)
          rw [extH_out fun hb => ?_]
          · exact h
          · obtain ⟨p, hp, rfl⟩ := lim a hb
            rw [hH (p.2.1, p.2.2) (List.mem_map.mpr ⟨p, hp, rfl⟩)] at h
            cases h
        · refine .inl (.inr ⟨o, ?_⟩)
          rw [extH_out fun hb => ?_]
          · exact h
          · obtain ⟨p, hp, rfl⟩ := lim a hb
            rw [hH (p.2.1, p.2.2) (List.mem_map.mpr ⟨p, hp, rfl⟩)] at h
            cases h
        · exact .inr h
      · obtain ⟨p, hp, rfl⟩ := lim b hb
        exact e _ _ (hnt p hp)
end LT

set_option Elab.async false
set_option linter.all false
set_option maxRecDepth 100000
set_option maxHeartbeats 4000000
namespace LG
open PySem PySem.Spec PyProof.Rows L2 Evl LT
/-! ### generator expressions whose elements leave everything as it stands -/
theorem kp_tok (s : Shared) (k : Nat) : Keeps s { s with toks := k } := ⟨s.heap, k, rfl, fun _ _ e => e⟩
theorem kp_refl (s : Shared) : Keeps s s := kp_tok s s.toks
theorem kp_trans {s s1 s2 : Shared} (a : Keeps s s1) (b : Keeps s1 s2) : Keeps s s2 := by
  obtain ⟨h1, t1, rfl, k1⟩ := a
  obtain ⟨h2, t2, rfl, k2⟩ := b
  exact ⟨h2, t2, rfl, fun c o e => k2 c o (k1 c o e)⟩
theorem kp_at {s s1 : Shared} (a : Keeps s s1) : ∀ b o, s.heap.get? b = some o → s1.heap.get? b = some o := by
  obtain ⟨h1, t1, rfl, k1⟩ := a
  exact k1
def but (P : Addr) (H : Hp) : Hp := fun b => if b = P then none else H b
theorem but_ne {P b : Addr} {H : Hp} (h : b ≠ P) : but P H b = H b := if_neg h
/-- in the frame of a generator expression, at one turn: its name x holds u -/
structure Fc (X : Cx) (σ : L2.St) (H : Hp) (P : Addr) (scope : Scope) (x : Str) (u : Value) (cenv : Env) (A' : Around) (s₂ : Shared) (m₂ : Str → Option Value) : Prop where
  hd : A'.handled = none
  dp : A'.depth ≤ X.A.depth + 1
  un : A'.units ≤ X.A.units + 8
  sc : cenv.scope = scope
  gl : cenv.globals = mainGlobals
  bi : cenv.builtins = builtinsNs
  ns : s₂.heap.Ns cenv.locals m₂
  mx : m₂ x = some u
  base : ∀ b o, X.base.get? b = some o → s₂.heap.get? b = some o
  md : L2.Mod X.K X.mg X.base
  hok : HOk X.prog X.w (but P H) s₂.heap
  cap : ∀ (i : Nat) (y : Str) (v : V), X.N[i]? = some y → σ[i]? = some (some v) → (X.env.kindOf y = some .cell ∨ X.env.kindOf y = some .free) → scope.names.lookup y = some .free → ∃ r c, RelV v r ∧ cenv.cells.lookup y = some c ∧ s₂.heap.IsCell c (some r)
section
variable {X : Cx} {σ : L2.St} {H : Hp} {P : Addr} {scope : Scope} {x : Str} {u : Value} {cenv : Env} {A' : Around} {s₂ s₃ : Shared} {m₂ : Str → Option Value}
theorem Fc.keeps (F : Fc X σ H P scope x u cenv A' s₂ m₂) (k : Keeps s₂ s₃) : Fc X σ H P scope x u cenv A' s₃ m₂ :=
  have k' := kp_at k
  ⟨F.hd, F.dp, F.un, F.sc, F.gl, F.bi, (let ⟨o, es, ep, e, r⟩ := F.ns; ⟨o, es, ep, k' _ _ e, r⟩), F.mx, fun b o e => k' b o (F.base b o e), F.md, F.hok.kept k', fun i y v h1 h2 h3 h4 => by
    obtain ⟨r, c, a1, a2, o, a3, a4⟩ := F.cap i y v h1 h2 h3 h4
    exact ⟨r, c, a1, a2, o, k' _ _ a3, a4⟩⟩
theorem Fc.kin (F : Fc X σ H P scope x u cenv A' s₂ m₂) : X.K.In s₂.heap := F.md.kin.keeps F.base
theorem Fc.list (F : Fc X σ H P scope x u cenv A' s₂ m₂) (hT : Tab H P) {a : Addr} {xs : List V} (h : SqL X.K H a xs) : ∃ its : List Value, Vals xs its ∧ PlainL s₂.heap a its.toArray ∧ xs.length ≤ sizeLine := by
  have rd : ∀ {o : HO}, H a = some o → (∀ φ, o ≠ .ext φ) → but P H a = some o := fun {o} e n => by
    rw [but_ne fun z => by rw [z, hT] at e; exact n _ (Option.some.inj e).symm]
    exact e
  rcases h with (h | ⟨o, h⟩) | ⟨o, its, n, hk, hc, hd, hs, hz, r⟩
  · obtain ⟨z, its, n, r, e⟩ := F.hok a _ (rd h (fun φ z => by cases z))
    exact ⟨its, r, ⟨_, n, e, rfl, rfl, rfl⟩, z⟩
  · obtain ⟨_, z, its, n, r, e⟩ := F.hok a _ (rd h (fun φ z => by cases z))
    exact ⟨its, r, ⟨_, n, e, rfl, rfl, rfl⟩, z⟩
  · refine ⟨its.toList, r, ⟨o, n, F.kin a o hk, hc, hd, by simpa using hs⟩, ?_⟩
    have e := r.length
    simp only [Array.length_toList] at e
    omega
theorem Fc.tuple (F : Fc X σ H P scope x u cenv A' s₂ m₂) (hT : Tab H P) {a : Addr} {xs : List V} (h : SqT X.K H a xs) : ∃ its : List Value, Vals xs its ∧ IsTup s₂.heap a its.toArray ∧ xs.length ≤ sizeLine := by
  have rd : ∀ {o : HO}, H a = some o → (∀ φ, o ≠ .ext φ) → but P H a = some o := fun {o} e n => by
    rw [but_ne fun z => by rw [z, hT] at e; exact n _ (Option.some.inj e).symm]
    exact e
  rcases h with (h | ⟨o, h⟩) | ⟨o, its, n, hk, hc, hs, hz, r⟩
  · obtain ⟨z, its, r, p⟩ := F.hok a _ (rd h (fun φ z => by cases z))
    exact ⟨its, r, p, z⟩
  · obtain ⟨_, z, its, r, p⟩ := F.hok a _ (rd h (fun φ z => by cases z))
    exact ⟨its, r, p, z⟩
  · refine ⟨its.toList, r, ⟨o, F.kin a o hk, hc, n, by simpa using hs⟩, ?_⟩
    have e := r.length
    simp only [Array.length_toList] at e
    omega
end
/-- the expression has the value z there -/
def QV (X : Cx) (σ : L2.St) (H : Hp) (P : Addr) (scope : Scope) (x : Str) (u : Value) (e : Expr) (z : V) : Prop :=
  ∀ (cenv : Env) (A' : Around) (E' : Value → Shared → Prop) (s₂ : Shared) (m₂ : Str → Option Value), Fc X σ H P scope x u cenv A' s₂ m₂ → wpAny (model X.prog X.w) A' (eval e cenv) (fun y s₃ => RelV z y ∧ Keeps s₂ s₃) E' s₂
section
variable {X : Cx} {σ : L2.St} {H : Hp} {P : Addr} {scope : Scope} {x : Str} {u : Value} {a b : Expr} {za zb z : V} {pos : Pos}
theorem qv_x (hk : scope.kind = .function) (hl : scope.names.lookup x = some .local) (r : RelV z u) (hd : (x == ("__debug__" : Str)) = false := by decide) : QV X σ H P scope x u (.Name x pos) z := fun cenv A' E' s m F =>
  wpAny_Name (wpAny_loadName_local (by rw [F.sc]; exact hk) (show cenv.scope.names.lookup x = some .local by rw [F.sc]; exact hl) F.ns F.mx ⟨r, kp_refl _⟩) hd
theorem qv_cap {i : Nat} {y : Str} (hk : scope.kind = .function) (hl : scope.names.lookup y = some .free) (hN : X.N[i]? = some y) (hs : σ[i]? = some (some z)) (hv : X.env.kindOf y = some .cell ∨ X.env.kindOf y = some .free := by first | exact Or.inl rfl | exact Or.inr rfl) (hd : (y == ("__debug__" : Str)) = false := by decide) (hcd : (y == ("__classdict__" : Str)) = false := by decide) :
    QV X σ H P scope x u (.Name y pos) z := fun cenv A' E' s m F => by
  obtain ⟨r, c, h1, h2, h3⟩ := F.cap i y z hN hs hv hl
  exact wpAny_Name (wpAny_loadName_free (by rw [F.sc]; exact hk) (show cenv.scope.names.lookup y = some .free by rw [F.sc]; exact hl) h2 h3 ⟨h1, kp_refl _⟩ hcd) hd
theorem qv_glob {y : Str} {r : Value} (hk : scope.kind = .function) (hl : scope.names.lookup y = some .globalImplicit) (hm : X.mg y = some r) (h : RelV z r) (hd : (y == ("__debug__" : Str)) = false := by decide) :
    QV X σ H P scope x u (.Name y pos) z := fun cenv A' E' s m F =>
  Calls.Name_function_global (by rw [F.sc]; exact hk) (show cenv.scope.names.lookup y = some .globalImplicit by rw [F.sc]; exact hl) (Calls.loadGlobal_global (by rw [F.gl]; exact F.md.glob.keeps F.base) hm ⟨h, kp_refl _⟩) hd
theorem qv_int {i : Int} {j : Nat} : QV X σ H P scope x u (.Constant (.int i) j pos) (.int i) := fun cenv A' E' s m F => wpAny_Constant_int ⟨⟨_, rfl⟩, kp_tok _ _⟩
theorem qv_str {i : Str} {j : Nat} : QV X σ H P scope x u (.Constant (.str i) j pos) (.str i) := fun cenv A' E' s m F => Calls.Constant_str ⟨⟨_, rfl⟩, kp_tok _ _⟩
/-- an operation on two values -/
def QR (X : Cx) (σ : L2.St) (H : Hp) (P : Addr) (scope : Scope) (x : Str) (u : Value) (f : Value → Value → Sem Value) (za zb z : V) : Prop :=
  ∀ (cenv : Env) (A' : Around) (E' : Value → Shared → Prop) (s₂ : Shared) (m₂ : Str → Option Value) (v w : Value), Fc X σ H P scope x u cenv A' s₂ m₂ → RelV za v → RelV zb w → wpAny (model X.prog X.w) A' (f v w) (fun y s₃ => RelV z y ∧ Keeps s₂ s₃) E' s₂
theorem qv_two {f : Value → Value → Sem Value} (ha : QV X σ H P scope x u a za) (hb : QV X σ H P scope x u b zb) (hr : QR X σ H P scope x u f za zb z) (cenv : Env) (A' : Around) (E' : Value → Shared → Prop) (s : Shared) (m : Str → Option Value) (F : Fc X σ H P scope x u cenv A' s m) :
    wpAny (model X.prog X.w) A' (eval a cenv) (fun v s₁ => wpAny (model X.prog X.w) A' (eval b cenv) (fun w s₂ => wpAny (model X.prog X.w) A' (f v w) (fun y s₃ => RelV z y ∧ Keeps s s₃) E' s₂) E' s₁) E' s :=
  wpAny_mono (ha cenv A' E' s m F) (fun v s1 r1 => wpAny_mono (hb cenv A' E' s1 m (F.keeps r1.2)) (fun w s2 r2 => wpAny_mono (hr cenv A' E' s2 m v w ((F.keeps r1.2).keeps r2.2) r1.1 r2.1)
    (fun y s3 r3 => ⟨r3.1, kp_trans (kp_trans r1.2 r2.2) r3.2⟩) fun _ _ e => e) fun _ _ e => e) fun _ _ e => e
theorem qv_cmp {op : CmpOp} (hr : QR X σ H P scope x u (compareOp op) za zb z) (ha : QV X σ H P scope x u a za) (hb : QV X σ H P scope x u b zb) (hm : behindInMarks op b = false) : QV X σ H P scope x u (.Compare a [op] [b] pos) z := fun cenv A' E' s m F =>
  wpAny_Compare1 (qv_two ha hb hr cenv A' E' s m F) hm
theorem qv_op {op : Operator} (hr : QR X σ H P scope x u (binaryOp op) za zb z) (ha : QV X σ H P scope x u a za) (hb : QV X σ H P scope x u b zb) : QV X σ H P scope x u (.BinOp a op b pos) z := fun cenv A' E' s m F =>
  wpAny_BinOp (qv_two ha hb hr cenv A' E' s m F)
theorem qv_ix (hr : ∀ value slice, subscripted slice false = subscripted slice false → QR X σ H P scope x u (fun v w => subscriptTail value slice v w) za zb z) (ha : QV X σ H P scope x u a za) (hb : QV X σ H P scope x u b zb) : QV X σ H P scope x u (.Subscript a b pos) z := fun cenv A' E' s m F =>
  Subscript_ (qv_two ha hb (hr a b rfl) cenv A' E' s m F)
theorem qr_add {i j : Int} : QR X σ H P scope x u (binaryOp .Add) (.int i) (.int j) (.int (i + j)) := fun cenv A' E' s m v w F r1 r2 => by
  obtain ⟨t, rfl⟩ := r1
  obtain ⟨t', rfl⟩ := r2
  exact add_int ⟨⟨_, rfl⟩, kp_tok _ _⟩
theorem qr_ne_int {i j : Int} : QR X σ H P scope x u (compareOp .NotEq) (.int i) (.int j) (.bl (i != j)) := fun cenv A' E' s m v w F r1 r2 => by
  obtain ⟨t, rfl⟩ := r1
  obtain ⟨t', rfl⟩ := r2
  exact ne_int ⟨rfl, kp_refl _⟩
theorem qr_le_int {i j : Int} : QR X σ H P scope x u (compareOp .LtE) (.int i) (.int j) (.bl (decide (i ≤ j))) := fun cenv A' E' s m v w F r1 r2 => by
  obtain ⟨t, rfl⟩ := r1
  obtain ⟨t', rfl⟩ := r2
  exact le_int ⟨rfl, kp_refl _⟩
theorem qr_ne_str {i j : Str} : QR X σ H P scope x u (compareOp .NotEq) (.str i) (.str j) (.bl (i.cps.toList != j.cps.toList)) := fun cenv A' E' s m v w F r1 r2 => by
  obtain ⟨t, rfl⟩ := r1
  obtain ⟨t', rfl⟩ := r2
  exact PySem.P.ne_str ⟨rfl, kp_refl _⟩
theorem qr_in_sign {c : Nat} {j : Str} : QR X σ H P scope x u (compareOp .In) (.str ⟨#[c]⟩) (.str j) (.bl (decide (c ∈ j.cps.toList))) := fun cenv A' E' s m v w F r1 r2 => by
  obtain ⟨t, rfl⟩ := r1
  obtain ⟨t', rfl⟩ := r2
  exact PyProof.Rows.in_str ⟨(PySem.StrLaws.found_one j c).symm ▸ rfl, kp_refl _⟩
end

/-! ### what is walked -/
def SrcV (K : PySem.W.Frag) (H : Hp) (v : V) (n : Nat) (xs : Nat → V) : Prop :=
  (∃ (a : Addr) (l : List V), v = .ref a ∧ SqL K H a l ∧ n = l.length ∧ ∀ i, xs i = l.getD i .non) ∨
  (∃ z : Str, v = .str z ∧ n = z.cps.size ∧ ∀ i c, z.cps[i]? = some c → xs i = .str ⟨#[c]⟩) ∨
  (∃ (a : Addr) (lo hi : Int), v = .ref a ∧ H a = some (.rng lo hi) ∧ n = (hi - lo).toNat ∧ -(2 ^ 62) ≤ lo ∧ lo < 2 ^ 62 ∧ -(2 ^ 62) ≤ hi ∧ hi < 2 ^ 62 ∧ ∀ i : Nat, xs i = .int (lo + i))
section
variable {X : Cx} {pins : List (Addr × Obj)} {σ : L2.St} {H : Hp} {s : Shared}
theorem src_iter {v : V} {xv : Value} {n : Nat} {xs : Nat → V} {P : Addr} {Q : Value → Shared → Prop} {E : Value → Shared → Prop} (S : SrcV X.K H v n xs) (I : Inv X pins σ H s) (r : RelV v xv) (hT : Tab H P)
    (h : ∀ (o : Obj) (fp : List Addr) (Pf : Nat → Value → Prop) (St : Nat → Heap → Prop), (∀ i u, Pf i u → i < n → RelV (xs i) u) → (∀ A' : Around, A'.handled = none → Walks X.prog X.w A' s.heap.objs.size fp [s.heap.objs.size] n Pf St) →
      St 0 (s.heap.push o) → (∀ b ∈ fp, b ≤ s.heap.objs.size ∧ b ≠ P) → Q (.ref s.heap.objs.size) { s with heap := s.heap.push o }) : wpAny (model X.prog X.w) X.A (pyIter xv) Q E s := by
  have Plt : P < s.heap.objs.size := Heap.lt_size (hT.of_ok I.hok).choose_spec.1
  have szP : s.heap.objs.size ≠ P := fun z => Nat.lt_irrefl _ (z ▸ Plt : s.heap.objs.size < s.heap.objs.size)
  rcases S with ⟨a, l, rfl, hl, rfl, hx⟩ | ⟨z, rfl, rfl, hx⟩ | ⟨a, lo, hi, rfl, ha, rfl, b1, b2, b3, b4, hx⟩
  · cases r
    obtain ⟨its, rv, pl, _⟩ := I.list hl
    have hal : a < s.heap.objs.size := let ⟨_, e, _⟩ := pl.isList; Heap.lt_size e
    have naP : a ≠ P := fun e => by
      obtain ⟨ps, e1, _⟩ := hT.of_ok I.hok
      obtain ⟨o, n, e2, e3, _, e4⟩ := pl
      rw [e, e1] at e2
      cases e2
      cases e3
    refine wpAny_pyIter_list pl.isList ?_
    have hne : a ≠ s.heap.objs.size := Nat.ne_of_lt hal
    have en : its.toArray.size = l.length := by rw [List.size_toArray]; exact rv.length.symm
    refine h _ [s.heap.objs.size, a] (fun i v => its.toArray[i]? = some v) (fun i h => h.IsListIter s.heap.objs.size a i ∧ h.IsList a its.toArray) (fun i u hu hi => ?_) (fun A' hA => by rw [← en]; exact Walks.list hA _ a hne its.toArray) ⟨⟨_, Heap.get?_push_size _ rfl, rfl, rfl⟩, pl.isList.at fun o e => Heap.get?_push_of_some _ e⟩ fun b hb => ?_
    · obtain ⟨w, ew, rw'⟩ := rv.get (List.getElem?_eq_getElem hi)
      have e2 : its.toArray[i]? = some w := by simpa using ew
      rw [e2] at hu
      cases hu
      rw [hx, List.getD_eq_getElem?_getD, List.getElem?_eq_getElem hi]
      exact rw'
    · rcases List.mem_cons.mp hb with e | hb
      · rw [e]
        exact ⟨Nat.le_refl _, szP⟩
      · rw [List.mem_singleton.mp hb]
        exact ⟨Nat.le_of_lt hal, naP⟩
  · obtain ⟨t, rfl⟩ := r
    refine wpAny_pyIter_str fun o St W hst => ?_
    refine h o [s.heap.objs.size] (SignAt z) St (fun i u hu hi => ?_) W hst fun b hb => ?_
    · obtain ⟨c, t', hc, rfl⟩ := hu
      rw [hx i c hc]
      exact ⟨_, rfl⟩
    · rw [List.mem_singleton.mp hb]
      exact ⟨Nat.le_refl _, szP⟩
  · cases r
    obtain ⟨t, t1, t2, e⟩ := I.hok a _ ha
    refine wpAny_pyIter_range (a := lo) (b := hi) (c := 1) e (small_one b1 b2 b3 b4) ?_
    have en : ((Builtin.Range.rangeSize lo hi 1 : Int)) = (((hi - lo).toNat : Nat) : Int) := by
      unfold Builtin.Range.rangeSize
      simp
      omega
    refine h _ [s.heap.objs.size] (fun i v => ∃ t, v = .int (lo + i * 1) t) _ (fun i u hu hi => ?_) (fun A' hA => Walks.range hA _ lo 1 _) ?_ fun b hb => ?_
    · obtain ⟨t, rfl⟩ := hu
      rw [hx]
      exact ⟨t, by rw [Int.mul_one]⟩
    · rw [en]
      show IsRangeIter _ _ (lo + ((0 : Nat) : Int) * 1) ((((hi - lo).toNat : Nat) : Int) - ((0 : Nat) : Int)) 1
      rw [show lo + ((0 : Nat) : Int) * 1 = lo by simp, show (((hi - lo).toNat : Nat) : Int) - ((0 : Nat) : Int) = (((hi - lo).toNat : Nat) : Int) by simp]
      exact Heap.get?_push_size _ rfl
    · rw [List.mem_singleton.mp hb]
      exact ⟨Nat.le_refl _, szP⟩
end
theorem lookup_mem' {α : Type} : ∀ {l : List (Str × α)} {n : Str} {c : α}, l.lookup n = some c → (n, c) ∈ l
  | [], _, _, h => by cases h
  | (k, v) :: r, n, c, h => by
    rw [List.lookup_cons] at h
    cases hb : n == k with
    | true =>
      rw [hb] at h
      cases h
      rw [beq_iff_eq.mp hb]
      exact List.mem_cons_self
    | false =>
      rw [hb] at h
      exact List.mem_cons_of_mem _ (lookup_mem' h)
theorem walks_lt {prog : Program} {w : World} {A : Around} {I : Addr} {fp wr : List Addr} {n : Nat} {Pf : Nat → Value → Prop} {St : Nat → Heap → Prop} (W : Walks prog w A I fp wr n Pf St) : Walks prog w A I fp wr n (fun i u => i < n ∧ Pf i u) St where
  sub := W.sub
  frame := W.frame
  item := fun i s Q E hi st hQ => W.item i s Q E hi st fun v h' tk hp => hQ v h' tk ⟨hi, hp⟩
  done := W.done
  self := W.self
theorem clo_lookup {cells : List (Str × Addr)} {names : List (Str × NameKind)} {y : Str} {c : Addr} (hy : (y, NameKind.free) ∈ names) (hc : cells.lookup y = some c) : (cloFrom cells names []).lookup y = some c := by
  obtain ⟨c', h⟩ := mem_lookup (cloFrom_has (cells := cells) (acc := []) hy)
  rcases cloFrom_mem (lookup_mem' h) with z | ⟨_, z⟩
  · cases z
  · rw [h, z, hc]
    rfl
section
variable {X : Cx} {pins : List (Addr × Obj)} {σ : L2.St} {H : Hp} {s : Shared}
/-- the table has grown: nothing that is tracked changes -/
theorem inv_grown {P : Addr} {s' : Shared} (I : Inv X pins σ H s) (hT : Tab H P) (k : ∀ b o, b ≠ P → s.heap.get? b = some o → s'.heap.get? b = some o) (hP : TabPhi P s'.heap) (ho : s'.os = s.os) (hg : AllBare s'.gens) : Inv X pins σ H s' := by
  have nN : ∀ b, H b = none → b ≠ P := fun b e z => by
    rw [z, hT] at e
    cases e
  have J := I.step (h' := s'.heap) (H' := H) (g' := s'.gens) (t' := s'.toks) (d' := s'.drawn) (ch := []) (fun b hb => absurd hb (by simp)) (fun b o _ _ _ e n => k b o (nN b n) e) (fun b o _ _ _ e n => ⟨o.slots, k b o (nN b n) e⟩) (fun b o _ _ n => n)
    (fun b o _ e => by
      by_cases hb : b = P
      · rw [hb]
        exact ⟨_, hP.choose_spec.1⟩
      · exact ⟨o, k b o hb e⟩)
    (fun b xs e => e) (fun b o u e => e) (fun b ps e => ⟨#[], by rw [e]; simp⟩) (fun m ⟨ob, es, ep, e, r⟩ => ⟨ob, es, ep, k _ ob (nN _ I.free) e, r⟩)
    (fun b u e => by
      by_cases hb : b = P
      · subst hb
        rw [hT] at e
        cases e
        exact tab_ok hP
      · refine (I.hok b u e).stay (fun d v hd q => k d v ?_ q) (fun d q => q) fun d xs q => q
        rcases hd with z | z
        · rw [z]
          exact hb
        · intro e2
          rw [e2, hT] at z
          cases z) hg
  have e : ({ s with heap := s'.heap, gens := s'.gens, drawn := s'.drawn, toks := s'.toks } : Shared) = s' := by
    cases s'
    cases ho
    rfl
  rw [e] at J
  exact J
/-- the generator g, ready to be walked -/
def RdyG (X : Cx) (pins : List (Addr × Obj)) (σ : L2.St) (H : Hp) (n : Nat) (f : Nat → Bool) (g : Addr) (s5 : Shared) : Prop :=
  ∃ (fp wr : List Addr) (G : Array GenState → Array GenState → Prop) (F : Nat → Value → Prop) (St : Nat → Shared → Prop), WalksS X.prog X.w X.A.in1 g fp wr G n F St ∧ St 0 s5 ∧ TruthOf X.prog X.w X.A.in1 F f ∧ ∀ s', Moved wr G s5 s' → Inv X pins σ H s'
theorem gen_make {c P : Addr} {elt iter : Expr} {x : Str} {px gpos : Pos} {scope : Scope} {te : TE} {k : Nat} {Q' : Value → Shared → Prop} {R : Nat → (Nat → Bool) → Hp → Prop}
    (hr : Room k X.A) (TB : LamX.TabB X.base X.mg c P) (hcode : X.env.code = .ref c) (S : GxR.GenS X.env scope x) (hi : PE X iter te) (hs : ∀ v, genFold iter X.env v = pure v) (I : Inv X pins σ H s)
    (h : te σ H fun v H1 => Tab H1 P ∧ ∃ (n : Nat) (xs : Nat → V) (f : Nat → Bool), SrcV X.K H1 v n xs ∧ (∀ i u, i < n → RelV (xs i) u → QV X σ H1 P scope x u elt (.bl (f i))) ∧ R n f H1)
    (hQ : ∀ n f H1 g s5, R n f H1 → RdyG X pins σ H1 n f g s5 → Q' (.ref g) s5) :
    wpAny (model X.prog X.w) X.A (eval (.GeneratorExp elt [⟨.Name x px, iter, [], 0⟩] scope gpos) X.env) Q' X.xe s := by
  refine wpAny_GeneratorExp_walksQD hr.hd S.co (closure_ok S.free) S.cell S.dot S.loc S.kind hr.depth ?_ hs
  refine thn (hi.run pins s σ H _ I h) fun xv s1 ⟨v, H1, I1, r1, hT, n, xs, f, hsrc, hel, hR⟩ => ?_
  refine src_iter hsrc I1 r1 hT fun o fp Pf St hPf hW hst hfp => ?_
  obtain ⟨ps, hPs, ht⟩ := hT.of_ok I1.hok
  have hPlt : P < s1.heap.objs.size := Heap.lt_size hPs
  have hP2 : (s1.heap.push o).get? P = some { cls := .none, data := .fields ps } := Heap.get?_push_of_some _ hPs
  have cd : PySem.W.CodeHd (s1.heap.push o) c P := TB.code.keeps fun b u e => Heap.get?_push_of_some _ (I1.bk b u e)
  have lim2 : (s1.heap.push o).NoLimit := I1.nolimit.push o
  have hcP : cStatics ≠ P := fun e => by
    obtain ⟨_, ⟨o', es, ep, ho, hd, _⟩, _⟩ := I1.nolimit
    rw [e, hPs] at ho
    cases ho
    cases hd
  have hcl : cStatics < s1.heap.objs.size := let ⟨_, hns, _⟩ := I1.nolimit; hns.lt
  have sz2 : (s1.heap.push o).objs.size = s1.heap.objs.size + 1 := Heap.size_push ..
  have nTb : ∀ b, H1 b = none → b ≠ P := fun b e z => by
    rw [z, hT] at e
    cases e
  -- what is left once the code object is known
  have go : ∀ (code : Value) (h3 : Heap) (tk : Nat) (ps' : Array Value), Heap.ExtBut P (s1.heap.push o) h3 → (s1.heap.push o).objs.size ≤ h3.objs.size → h3.get? P = some { cls := .none, data := .fields ps' } → TriplesOk ps'.toList →
      wpAny (model X.prog X.w) X.A (builtinsFor X.env.globals X.env.builtins) (fun bi s₄ => ∃ I fp wr n₀ Pg St₀ pz F, Value.ref s1.heap.objs.size = .ref I ∧ (∀ A' : Around, A'.handled = none → Walks X.prog X.w A' I fp wr n₀ Pg St₀) ∧ St₀ 0 s₄.heap ∧ (∀ b ∈ fp, b < s₄.heap.objs.size) ∧ s₄.heap.NoLimit ∧ cStatics ∉ wr ∧
          (∀ href : Heap, (∀ b o, s₄.heap.get? b = some o → href.get? b = some o) → QuietGenD X.prog X.w (genEnv scope (cloFrom X.env.cells scope.names []) s₄.heap.objs.size code bi X.env) x [] elt (List.range s₄.heap.objs.size) wr Pg pz F href (X.A.depth + 1) (X.A.units + 8)) ∧
          (∀ a h₅ tk gs, gs.bare = true → s₄.heap.objs.size < a → h₅.objs.size = a + 1 → (∀ b o, s₄.heap.get? b = some o → h₅.get? b = some o) →
            WalksS X.prog X.w X.A.in4 a (a :: s₄.heap.objs.size :: List.range s₄.heap.objs.size) (s₄.heap.objs.size :: wr) (GenOnlyQ s₄.gens.size) (passing pz n₀ 0).length (fun j y => ∃ i, (passing pz n₀ 0)[j]? = some i ∧ F i y) (GenAt X.prog X.w X.A.in4 a s₄.gens.size s₄.heap.objs.size (List.range s₄.heap.objs.size) wr pz n₀ F) →
            GenAt X.prog X.w X.A.in4 a s₄.gens.size s₄.heap.objs.size (List.range s₄.heap.objs.size) wr pz n₀ F 0 { s₄ with gens := s₄.gens.push gs, toks := tk, heap := h₅ } →
            Q' (.ref a) { s₄ with gens := s₄.gens.push gs, toks := tk, heap := h₅ })) X.xe { s1 with heap := h3, toks := tk } := by
    intro code h3 tk ps' hx hsz hP3 ht3
    obtain ⟨bm, ob, e1, e2, e3, e4, e5, e6, e7, e8⟩ := TB.bm
    have keep3 : ∀ b u, b ≠ P → s1.heap.get? b = some u → h3.get? b = some u := fun b u hb e => hx b u hb (Heap.get?_push_of_some _ e)
    refine wpAny_builtinsFor (m := X.mg) (by rw [I1.ok.glob]; exact ((I1.mod.glob.keeps I1.bk).push o).extBut hx TB.gP) e1 e2 (keep3 _ _ e4 (I1.bk _ _ e5)) e6 e7 e8 ?_
    have hsz3 : s1.heap.objs.size < h3.objs.size := by omega
    refine ⟨s1.heap.objs.size, fp, [s1.heap.objs.size], n, fun i u => i < n ∧ Pf i u, St, fun _ => true, fun i y => y = .bool (f i), rfl, fun A' hA => walks_lt (hW A' hA), ?_, fun b hb => Nat.lt_of_le_of_lt (hfp b hb).1 hsz3, lim2.extBut hx hcP, ?_, ?_, ?_⟩
    · exact (hW X.A hr.hd).frame _ _ _ hst fun b hb u e => hx b u (hfp b hb).2 e
    · intro z
      rw [List.mem_singleton.mp z] at hcl
      exact Nat.lt_irrefl _ hcl
    · intro href hhref
      refine ⟨fun A' E' i v s₂ m₂ hA hD hU hPv hn hm hk => ?_, fun A' E' i v s₂ m₂ hA hD hU hPv hp hn hm hk => ?_⟩
      · simp only [List.forIn_nil]
        exact wpAny_pure ⟨rfl, kp_refl _⟩
      · have kept : ∀ b u, b ≠ P → s1.heap.get? b = some u → s₂.heap.get? b = some u := fun b u hb e => by
          have hlt := Heap.lt_size e
          refine hk b (List.mem_range.mpr ?_) (fun z => ?_) u (hhref b u (keep3 b u hb e))
          · show b < h3.objs.size
            exact Nat.lt_trans hlt hsz3
          · rw [List.mem_singleton.mp z] at hlt
            exact Nat.lt_irrefl _ hlt
        refine wpAny_mono (hel i v hPv.1 (hPf i v hPv.2 hPv.1) _ A' E' s₂ m₂ ⟨hA, hD, hU, rfl, I1.ok.glob, rfl, hn, hm, fun b u e => kept b u (nTb b (I1.bs b u e).2) (I1.bk b u e), I1.mod, fun b u e => ?_, fun j y w hN hσ hv hfr => ?_⟩) (fun y s3 r => ⟨r.1, r.2⟩) fun _ _ e => e
        · have hb : b ≠ P := fun z => by
            rw [z] at e
            unfold but at e
            rw [if_pos rfl] at e
            cases e
          rw [but_ne hb] at e
          refine (I1.hok b u e).stay (fun d w hd q => kept d w ?_ q) (fun d q => ?_) fun d ys q => ?_
          · rcases hd with z | z
            · rw [z]
              exact hb
            · intro e2
              rw [e2, hT] at z
              cases z
          · rw [but_ne fun e2 => by rw [e2, hT] at q; cases q]
            exact q
          · rw [but_ne fun e2 => by rw [e2, hT] at q; cases q]
            exact q
        · obtain ⟨m, hn1, hl⟩ := I1.loc
          obtain ⟨r, rv, l⟩ := hl j y w hN hσ (hv.elim (fun z => Or.inr (Or.inl z)) (fun z => Or.inr (Or.inr z)))
          rcases l with ⟨z, _⟩ | ⟨_, cc, hc, oc, he, hd⟩
          · rcases hv with z2 | z2
            · rw [z] at z2; cases z2
            · rw [z] at z2; cases z2
          · exact ⟨r, cc, rv, clo_lookup (lookup_mem' hfr) hc, oc, kept cc oc (nTb cc (I1.freeC y cc hc)) he, hd⟩
    · intro g h5 tk5 gs hgb hag hsz5 hk5 W5 hat
      simp only [GxR.passing_true, List.length_range] at W5
      refine hQ n f H1 g _ hR ⟨_, _, _, _, _, W5.in4_1, hat, fun j y sj Qj Ej hy hQj => ?_, fun s' hm => ?_⟩
      · obtain ⟨i, hij, rfl⟩ := hy
        obtain ⟨hj, ej⟩ := List.getElem?_eq_some_iff.mp hij
        rw [List.getElem_range] at ej
        subst ej
        exact wpAny_truthy_bool hQj
      · have nwr : ∀ b u, s1.heap.get? b = some u → b ∉ h3.objs.size :: [s1.heap.objs.size] := fun b u e hb => by
          have hl := Heap.lt_size e
          rcases List.mem_cons.mp hb with z | z
          · rw [z] at hl
            exact Nat.lt_irrefl _ (Nat.lt_trans hl hsz3)
          · rw [List.mem_singleton.mp z] at hl
            exact Nat.lt_irrefl _ hl
        exact inv_grown I1 hT (fun b u hb e => hm.heap b u (nwr b u e) (hk5 b u (keep3 b u hb e))) ⟨ps', hm.heap P _ (nwr P _ hPs) (hk5 P _ hP3), ht3⟩ hm.os (AllBare.movedS (I1.bare.push hgb) hm)
  refine ⟨lim2, ?_⟩
  cases hf : codeAmong gpos ps.toList with
  | some cv => exact wpAny_genexprCode_hit hcode (cd.code hP2 ht) hf (go cv (s1.heap.push o) s1.toks ps (Heap.ExtBut.refl _ _) (Nat.le_refl _) hP2 ht)
  | none =>
    refine wpAny_genexprCodeX hcode (cd.code hP2 ht) (cd.tab hP2) hf fun c' h' tk hx hge hlt hco' _ htab' _ => ?_
    obtain ⟨_, _, _, _, _, _, _, _, _, _, _, _, _, _, _, _, _, _, _, htr, _⟩ := hco'
    exact go _ h' tk _ hx (Nat.le_trans hge (Nat.le_of_lt hlt)) htab'.2 htr
/-- all(.. for x in e), any(.. for x in e) -/
def tGen (X : Cx) (P : Addr) (scope : Scope) (x : Str) (elt : Expr) (fin : Nat → (Nat → Bool) → Bool) (te : TE) : TE := fun σ H Q => te σ H fun v H1 => Tab H1 P ∧ ∃ (n : Nat) (xs : Nat → V) (f : Nat → Bool), SrcV X.K H1 v n xs ∧ (∀ i u, i < n → RelV (xs i) u → QV X σ H1 P scope x u elt (.bl (f i))) ∧ Q (.bl (fin n f)) H1
def allF (n : Nat) (f : Nat → Bool) : Bool := (List.range n).all f
def anyF (n : Nat) (f : Nat → Bool) : Bool := (List.range n).any f
theorem pe_all {c P : Addr} {elt iter : Expr} {x : Str} {px p pos gpos : Pos} {scope : Scope} {te : TE} {k : Nat} (hr : Room k X.A) (hg : Gl X "all") (hm : X.mg "all" = none) (hb : bootBuiltins "all" = some (.builtin "all")) (TB : LamX.TabB X.base X.mg c P) (hcode : X.env.code = .ref c) (S : GxR.GenS X.env scope x)
    (hi : PE X iter te) (hs : ∀ v, genFold iter X.env v = pure v)
    (he : starEach [.GeneratorExp elt [⟨.Name x px, iter, [], 0⟩] scope gpos] X.env = (false, eval (.GeneratorExp elt [⟨.Name x px, iter, [], 0⟩] scope gpos) X.env) :: starEach [] X.env := by rfl) :
    PE X (.Call (.Name "all" p) [.GeneratorExp elt [⟨.Name x px, iter, [], 0⟩] scope gpos] [] pos) (tGen X P scope x elt allF te) := by
  refine ⟨fun pins s σ H Q I h => wpAny_Call_Name_kw (ld_blt I hg hm hb (PyProof.Rows.callWith_builtin1 ?_ he (by rfl)))⟩
  rw [he]
  show wpAny _ _ (spliced ((false, eval (.GeneratorExp elt [⟨.Name x px, iter, [], 0⟩] scope gpos) X.env) :: backTo pos (starEach [] X.env))) _ _ s
  refine Calls.spliced_cons (gen_make (R := fun n f H1 => Q (.bl (allF n f)) H1) hr TB hcode S hi hs I h fun n f H1 g s5 hR ⟨fp, wr, G, F, St₁, W, hst, htr, hI⟩ => Calls.spliced_nil ?_)
  exact call_all_walkS (W.self 0 _ _ _ hst ⟨g, fp, wr, G, _, F, St₁, _, rfl, W, hst, htr, fun s' hmv => ⟨.bl _, H1, hI s' hmv, rfl, hR⟩⟩)
theorem pe_any {c P : Addr} {elt iter : Expr} {x : Str} {px p pos gpos : Pos} {scope : Scope} {te : TE} {k : Nat} (hr : Room k X.A) (hg : Gl X "any") (hm : X.mg "any" = none) (TB : LamX.TabB X.base X.mg c P) (hcode : X.env.code = .ref c) (S : GxR.GenS X.env scope x)
    (hi : PE X iter te) (hs : ∀ v, genFold iter X.env v = pure v)
    (he : starEach [.GeneratorExp elt [⟨.Name x px, iter, [], 0⟩] scope gpos] X.env = (false, eval (.GeneratorExp elt [⟨.Name x px, iter, [], 0⟩] scope gpos) X.env) :: starEach [] X.env := by rfl) :
    PE X (.Call (.Name "any" p) [.GeneratorExp elt [⟨.Name x px, iter, [], 0⟩] scope gpos] [] pos) (tGen X P scope x elt anyF te) := by
  refine ⟨fun pins s σ H Q I h => wpAny_Call_Name_kw (ld_blt I hg hm boot_any (PyProof.Rows.callWith_builtin1 ?_ he (by rfl)))⟩
  rw [he]
  show wpAny _ _ (spliced ((false, eval (.GeneratorExp elt [⟨.Name x px, iter, [], 0⟩] scope gpos) X.env) :: backTo pos (starEach [] X.env))) _ _ s
  refine Calls.spliced_cons (gen_make (R := fun n f H1 => Q (.bl (anyF n f)) H1) hr TB hcode S hi hs I h fun n f H1 g s5 hR ⟨fp, wr, G, F, St₁, W, hst, htr, hI⟩ => Calls.spliced_nil ?_)
  exact call_any_walkS (W.self 0 _ _ _ hst ⟨g, fp, wr, G, _, F, St₁, _, rfl, W, hst, htr, fun s' hmv => ⟨.bl _, H1, hI s' hmv, rfl, hR⟩⟩)
end
end LG

set_option Elab.async false
set_option linter.all false
set_option maxRecDepth 100000
set_option maxHeartbeats 4000000
namespace LS
open PySem PySem.Spec PyProof.Rows L2 Evl LT LG
/-! ### texts -/
section
variable {K : PySem.W.Frag} {σ : L2.St} {H : Hp} {ta tb tc te to : TE} {x y z v : V} {D : Ends} {tu tz : TS}
theorem rv_addS {i j : Str} (h : i.length + j.length ≤ sizeLine) : RV (fun x y H Q => ∃ i j, x = .str i ∧ y = .str j ∧ i.length + j.length ≤ sizeLine ∧ Q (.str (i ++ j)) H) (.str i) (.str j) H (.str (i ++ j)) := rv_val fun _ _ Q q => ⟨i, j, rfl, rfl, h, q⟩
theorem ev_lenS {z : Str} {ta : TE} (h : Ev ta σ H (.str z)) (hz : z.length ≤ sizeLine) : Ev (tCB (fun xs H Q => ∃ x, xs = [.str x] ∧ x.length ≤ sizeLine ∧ Q (.int x.length) H) (tCons ta tNil)) σ H (.int (z.length : Int)) := ev_cb (ea_cons h ea_nil) fun H1 _ Q q => ⟨z, rfl, hz, q H1 (Ex.refl H1)⟩
theorem ev_isi {x : V} {n : String} {t : Value} {b : Bool} (h : Ev ta σ H x) (hn : Ev tb σ H (.ty n)) (ht : ∀ H1, Ex H H1 → TyX K H1 x t) (hk : PySem.W.kitOne K t (.type n) = some b) : Ev (tCB (rIsi K) (tCons ta (tCons tb tNil))) σ H (.bl b) :=
  ev_cb (ea_cons h (ea_cons hn ea_nil)) fun H1 e Q q => ⟨x, .ty n, t, .type n, b, rfl, .ty n, ht H1 e, hk, q H1 (Ex.refl H1)⟩
/-- a < b < c over ints -/
theorem et_chain {f g : Int → Int → Bool} {i j k : Int} (ha : Ev ta σ H (.int i)) (hb : Ev tb σ H (.int j)) (hc : Ev tc σ H (.int k)) : EvT (tTest (tChain (rI0 fun i j => .bl (f i j)) (rI0 fun i j => .bl (g i j)) ta tb tc)) σ H (f i j && g j k) := fun H1 e Q q =>
  ha H1 e _ fun H2 e2 => hb H2 (e.trans e2) _ fun H3 e3 => ⟨i, j, rfl, rfl, f i j, rfl, by
    cases hf : f i j with
    | true =>
      rw [if_pos rfl]
      refine hc H3 ((e.trans e2).trans e3) _ fun H4 e4 => ⟨j, k, rfl, rfl, g j k, rfl, ?_⟩
      have := q H4 ((e2.trans e3).trans e4)
      rw [hf] at this
      exact this
    | false =>
      rw [if_neg Bool.false_ne_true]
      have := q H3 (e2.trans e3)
      rw [hf] at this
      exact ⟨false, rfl, this⟩⟩
theorem s_forS {zs : Str} {j : Nat} (h : Ev te σ H (.str zs)) (Pv : Nat → L2.St → Hp → Prop) (h0 : ∀ H1, Ex H H1 → Pv 0 σ H1)
    (hs : ∀ i c σ' H', zs.cps.toList[i]? = some c → Pv i σ' H' → tu { D with nx := Pv (i + 1), ct := Pv (i + 1), bk := D.nx } (σ'.set j (some (.str ⟨#[c]⟩))) H') (hd : ∀ σ' H', Pv zs.cps.toList.length σ' H' → D.nx σ' H') : tFor (iStr te) (gName j) tu D σ H :=
  h H (Ex.refl H) _ fun H1 e => ⟨zs, rfl, fun i m σ' H' => m + i = zs.cps.size ∧ Pv i σ' H', ⟨zs.cps.size, by omega, h0 H1 e⟩, fun i m σ' H' ⟨hm, p⟩ => by
    by_cases hi : i < zs.cps.size
    · refine .inr ⟨hi, Pv (i + 1), fun σ2 H2 p2 => ⟨m - 1, by omega, by omega, p2⟩, fun v H2 hy => ?_⟩
      obtain ⟨rfl, c, hc, rfl⟩ := hy
      exact hs i c σ' H2 (by rw [Array.getElem?_toList]; exact hc) p
    · have ei : i = zs.cps.toList.length := by
        rw [Array.length_toList]
        omega
      rw [ei] at p
      exact .inl ⟨Nat.le_of_not_lt hi, hd σ' H' p⟩⟩
theorem q_forS {zs : Str} {j : Nat} (h : Ev te σ H (.str zs)) (Pv : Nat → L2.St → Hp → Prop) (h0 : ∀ H1, Ex H H1 → Pv 0 σ H1)
    (hs : ∀ i c σ' H', zs.cps.toList[i]? = some c → Pv i σ' H' → tu { D with nx := Pv (i + 1), ct := Pv (i + 1), bk := tz D } (σ'.set j (some (.str ⟨#[c]⟩))) H') (hd : ∀ σ' H', Pv zs.cps.toList.length σ' H' → tz D σ' H') : tSeq (tFor (iStr te) (gName j) tu) tz D σ H :=
  s_forS (D := { D with nx := tz D }) h Pv h0 hs hd
theorem q_call {i : Nat} {sp : Sp} {dvs vs : List V} {E : XK} {tr : TA} (h : EvA tr σ H vs) (k : ∀ H1, Ex H H1 → sp (vs ++ dvs) H1 (fun v H2 => tz D (σ.set i (some v)) H2) E) : tSeq (tAsg (tCall sp dvs E tr) (gName i)) tz D σ H := h H (Ex.refl H) _ fun H1 e => k H1 e
/-- a call whose first argument is a new tuple -/
theorem ev_callU1 {sp : Sp} {dvs vs xs : List V} {E : XK} {tr : TA} (h : EvU ta σ H xs) (hr : EvA tr σ H vs) (hs : ∀ p H1, H1 p = some (.tup xs) → Ex H H1 → SpV sp ((.ref p :: vs) ++ dvs) H1 z) : Ev (tCall sp dvs E (tCons ta tr)) σ H z := fun H1 e Q q =>
  h H1 e _ fun p H2 hp e2 h2 => hr H2 (e.trans e2) _ fun H3 e3 => hs p H3 (e3 _ _ h2) ((e.trans e2).trans e3) H3 (Ex.refl _) Q (fun H4 e4 => q H4 ((e2.trans e3).trans e4)) E
theorem ev_index {W : WX} {a b : Str} {k : Nat} {tr : TA} (h : Ev to σ H (.str a)) (hb : EvA tr σ H [.str b]) (hk : Txt.index0 a b = some k) : Ev (tBMS K "str" (rIndexX W) to tr) σ H (.int (k : Int)) := fun H1 e Q q =>
  h H1 e _ fun H2 e2 => ⟨rfl, hb H2 (e.trans e2) _ fun H3 e3 => ⟨a, b, rfl, rfl, fun k' hk' => by
    rw [hk] at hk'
    cases hk'
    exact q H3 (e2.trans e3), fun hn => by
    rw [hk] at hn
    cases hn⟩⟩
theorem ev_find {a b : Str} (h : Ev to σ H (.str a)) (hb : Ev te σ H (.str b)) : Ev (tM1 (fun x xs H Q => ∃ a b, x = .str a ∧ xs = [.str b] ∧ Q (.int (Txt.find a b)) H) to te) σ H (.int (Txt.find a b)) := fun H1 e Q q =>
  h H1 e _ fun H2 e2 => ⟨⟨a, rfl⟩, hb H2 (e.trans e2) _ fun H3 e3 => ⟨a, b, rfl, rfl, q H3 (e2.trans e3)⟩⟩
theorem ev_slS {tl th : TO} {z : Str} {lo hi : Option Int} (h : Ev te σ H (.str z)) (h1 : EvO tl σ H lo) (h2 : EvO th σ H hi) (hz : z.length ≤ sizeLine) : Ev (tSl rSlS te tl th) σ H (.str (cutS z lo hi)) := fun H1 e Q q =>
  h H1 e _ fun H2 e2 => h1 H2 (e.trans e2) _ fun H3 e3 => h2 H3 ((e.trans e2).trans e3) _ fun H4 e4 => ⟨z, rfl, hz, q H4 ((e2.trans e3).trans e4)⟩
/-- text * int -/
def rMulS : R2 := fun x y H Q => ∃ a n, x = .str a ∧ y = .int n ∧ a.length ≤ 1000 ∧ 0 ≤ n ∧ n ≤ 1000 ∧ Q (.str (Txt.mul a n)) H
theorem rv_mulS {a : Str} {n : Int} (h1 : a.length ≤ 1000) (h2 : 0 ≤ n) (h3 : n ≤ 1000) : RV rMulS (.str a) (.int n) H (.str (Txt.mul a n)) := rv_val fun _ _ Q q => ⟨a, n, rfl, rfl, h1, h2, h3, q⟩
end
theorem mulOk {a : Str} {n : Int} (h1 : a.length ≤ 1000) (h2 : 0 ≤ n) (h3 : n ≤ 1000) : MulOk a n := by
  refine ⟨by simp; omega, fun h h' hh => ?_, fun h h' => ?_⟩
  · have p : (0 : Int) < n := by omega
    have m : (a.length : Int) * n ≤ 1000 * 1000 := Int.mul_le_mul (by omega) h3 h2 (by decide)
    have := (Int.le_ediv_iff_mul_le p).mpr (show (a.length : Int) * n ≤ 2 ^ 63 - 1 by omega)
    omega
  · have m : a.length * n.toNat ≤ 1000 * 1000 := Nat.mul_le_mul h1 (by omega)
    have z : sizeLine = 16777216 := rfl
    show decide (a.length * n.toNat > sizeLine) = false
    exact decide_eq_false (by omega)
theorem op_mul_str {X : Cx} : OpR X (binaryOp .Mult) rMulS := by
  intro pins s σ H x y v u Q I rx ry h
  obtain ⟨a, n, rfl, rfl, h1, h2, h3, q⟩ := h
  obtain ⟨t, rfl⟩ := rx
  obtain ⟨t', rfl⟩ := ry
  exact SB.mul (mulOk h1 h2 h3) fun t'' k => ⟨.str (Txt.mul a n), H, I.tok _, ⟨_, rfl⟩, q⟩
section
variable {X : Cx} {σ : L2.St} {H : Hp} {P : Addr} {scope : Scope} {x : Str} {elt : Expr} {te : TE} {fin : Nat → (Nat → Bool) → Bool}
theorem ev_gen {v : V} {n : Nat} {xs : Nat → V} {f : Nat → Bool} (h : Ev te σ H v) (hT : Tab H P) (hs : ∀ H1, Ex H H1 → SrcV X.K H1 v n xs) (he : ∀ H1, Ex H H1 → ∀ i u, i < n → RelV (xs i) u → QV X σ H1 P scope x u elt (.bl (f i))) :
    Ev (tGen X P scope x elt fin te) σ H (.bl (fin n f)) := fun H1 e Q q => h H1 e _ fun H2 e2 => ⟨hT.mono (e.trans e2), n, xs, f, hs H2 (e.trans e2), he H2 (e.trans e2), q H2 e2⟩
end
theorem allF_list {α : Type} (l : List α) (d : α) (p : α → Bool) : allF l.length (fun i => p (l.getD i d)) = l.all p := by
  unfold allF
  rw [Bool.eq_iff_iff, List.all_eq_true, List.all_eq_true]
  constructor
  · intro h y hy
    obtain ⟨i, hi, rfl⟩ := List.getElem_of_mem hy
    have q := h i (List.mem_range.mpr hi)
    rw [List.getD_eq_getElem?_getD, List.getElem?_eq_getElem hi] at q
    exact q
  · intro h i hi
    have hi' := List.mem_range.mp hi
    rw [List.getD_eq_getElem?_getD, List.getElem?_eq_getElem hi']
    exact h _ (List.getElem_mem hi')
theorem anyF_list {α : Type} (l : List α) (d : α) (p : α → Bool) : anyF l.length (fun i => p (l.getD i d)) = l.any p := by
  unfold anyF
  rw [Bool.eq_iff_iff, List.any_eq_true, List.any_eq_true]
  constructor
  · rintro ⟨i, hi, h⟩
    have hi' := List.mem_range.mp hi
    rw [List.getD_eq_getElem?_getD, List.getElem?_eq_getElem hi'] at h
    exact ⟨_, List.getElem_mem hi', h⟩
  · rintro ⟨y, hy, h⟩
    obtain ⟨i, hi, rfl⟩ := List.getElem_of_mem hy
    refine ⟨i, List.mem_range.mpr hi, ?_⟩
    rw [List.getD_eq_getElem?_getD, List.getElem?_eq_getElem hi]
    exact h
theorem src_str {K : PySem.W.Frag} {H : Hp} (z : Str) : SrcV K H (.str z) z.cps.toList.length (fun i => .str ⟨#[z.cps.toList.getD i 0]⟩) := .inr (.inl ⟨z, rfl, Array.length_toList, fun i c hc => by
  have e : z.cps.toList[i]? = some c := by rw [Array.getElem?_toList]; exact hc
  show V.str ⟨#[z.cps.toList.getD i 0]⟩ = V.str ⟨#[c]⟩
  rw [List.getD_eq_getElem?_getD, e]
  rfl⟩)
/-! ### a def whose code object is known -/
structure FunC (K : PySem.W.Frag) (x qual : Str) (st : Stmt) (f : Addr) (fd : FuncData) (c : Addr) : Prop where
  ex : ∃ (oc : Value) (od : Option Addr) (kV doc pm : Value) (an : Option Addr) (ct : Value) (osl : Array (Option Value)), fd = PySem.W.fnOf x qual (defArgs st) (defBody st) (defScope st) .none kV doc pm an (.ref c) ct ∧ K.lookup f = some ⟨oc, od, .func fd, osl⟩ ∧ PySem.W.codeIn K (.ref c) qual = true
  kp : PySem.W.keepIn K (.ref f) = true
section
variable {P : Program} {w : World} {K : PySem.W.Frag} {mg : Str → Option Value} {base : Heap}
theorem FunC.ok {x qual : Str} {st : Stmt} {f c : Addr} {fd : FuncData} {N ps : List Str} {k : Nat} {sp : Sp} (F : FunC K x qual st f fd c) (S : FnScope N ps (defScope st)) (len : ∀ vs H Q E, sp vs H Q E → vs.length = ps.length)
    (hbody : ∀ (A : Around) (outer : List Env) (s : Shared) (H : Hp) (vs : List V) (Q : VK) (E : XK), Room k (A.deeper (envOfC qual (defScope st) s.heap.objs.size f (.ref c))) → sp vs H Q E →
      ∃ t, PSs (cxOf CX0 P w K mg base N qual (defScope st) f (.ref c) A outer s H E).nox (defBody st) t ∧ t { nx := fun _ H' => Q .non H', rt := Q } (start N vs) H) : FnOk P w K mg base CX0 (k + 1) f fd ps sp := by
  obtain ⟨oc, od, kV, doc, pm, an, ct, osl, rfl, lk, hcd⟩ := F.ex
  exact fn_of lk hcd S len fun A outer s H vs Q E hr hsp => let ⟨t, h, q⟩ := hbody A outer s H vs Q E hr hsp; ⟨t, h.nox, q⟩
theorem FunC.fun {x qual : Str} {st : Stmt} {f c : Addr} {fd : FuncData} (F : FunC K x qual st f fd c) : Fun K x qual st f fd := let ⟨oc, od, kV, doc, pm, an, ct, osl, e, lk, hcd⟩ := F.ex; ⟨⟨oc, od, kV, doc, pm, an, .ref c, ct, osl, e, lk, hcd⟩, F.kp⟩
theorem tab_mk {x : Str} {f c T : Addr} {oc e : Value} {od dd : Option Addr} {osl sl : Array (Option Value)} {fd : FuncData} {vs : Array Value} (a : PySem.W.nsIn K mainGlobals x = some (some (.ref f))) (l : K.lookup f = some ⟨oc, od, .func fd, osl⟩)
    (h : K.lookup c = some ⟨e, dd, .fields vs, sl⟩) (hv : vs[11]? = some (.ref T)) (hc : fd.code = .ref c := by rfl) : PySem.W.tabIn K x = some (c, T) := by
  unfold PySem.W.tabIn
  rw [a]
  dsimp only
  rw [l]
  dsimp only
  rw [hc]
  dsimp only
  rw [h]
  dsimp only
  rw [hv]
theorem funC_mk {x qual : Str} {st : Stmt} {f c T : Addr} {oc : Value} {od an : Option Addr} {osl : Array (Option Value)} {kV doc pm cdv ct : Value} (a : PySem.W.nsIn K mainGlobals x = some (some (.ref f))) (l : K.lookup f = some ⟨oc, od, .func (PySem.W.fnOf x qual (defArgs st) (defBody st) (defScope st) .none kV doc pm an cdv ct), osl⟩)
    (cd : PySem.W.codeIn K cdv qual = true) (k : PySem.W.keepIn K (.ref f) = true) (ht : PySem.W.tabIn K x = some (c, T)) : FunC K x qual st f (PySem.W.fnOf x qual (defArgs st) (defBody st) (defScope st) .none kV doc pm an cdv ct) c := by
  have e : cdv = .ref c := by
    unfold PySem.W.tabIn at ht
    rw [a] at ht
    dsimp only at ht
    rw [l] at ht
    dsimp only [PySem.W.fnOf] at ht
    cases cdv with
    | ref c' =>
      dsimp only at ht
      split at ht
      · split at ht
        · cases ht
          rfl
        · cases ht
      · cases ht
    | _ => cases ht
  subst e
  exact ⟨⟨oc, od, kV, doc, pm, an, ct, osl, rfl, l, cd⟩, k⟩
end
end LS

set_option Elab.async false
set_option linter.all false
set_option maxRecDepth 100000
set_option maxHeartbeats 4000000
namespace LQ
open PySem PySem.Spec PyProof.Rows L2 Evl LT LG LS
/-! ### calls within the elements of a generator expression -/
section
variable {X : Cx} {σ : L2.St} {H : Hp} {P : Addr} {scope : Scope} {x : Str} {u : Value} {a b : Expr} {za zb z : V} {pos p : Pos}
theorem fc_blt {y : Str} {r : Value} {cenv : Env} {A' : Around} {E' : Value → Shared → Prop} {s : Shared} {m : Str → Option Value} {Q : Value → Shared → Prop} (F : Fc X σ H P scope x u cenv A' s m) (hk : scope.kind = .function) (hl : scope.names.lookup y = some .globalImplicit) (hm : X.mg y = none) (hv : bootBuiltins y = some r) (h : Q r s)
    (hn : y ≠ "__name__" := by decide) (hd : (y == ("__debug__" : Str)) = false := by decide) : wpAny (model X.prog X.w) A' (eval (.Name y p) cenv) Q E' s := by
  obtain ⟨mb, h1, h2⟩ := F.md.blt
  exact Calls.Name_function_global (by rw [F.sc]; exact hk) (show cenv.scope.names.lookup y = some .globalImplicit by rw [F.sc]; exact hl) (Calls.loadGlobal_builtin (by rw [F.gl]; exact F.md.glob.keeps F.base) hm (by rw [F.bi]; exact h1.keeps F.base) ((h2 y hn).trans hv) h) hd
theorem qv_blt {y : Str} {r : Value} (hk : scope.kind = .function) (hl : scope.names.lookup y = some .globalImplicit) (hm : X.mg y = none) (hv : bootBuiltins y = some r) (hz : RelV z r) (hn : y ≠ "__name__" := by decide) (hd : (y == ("__debug__" : Str)) = false := by decide) :
    QV X σ H P scope x u (.Name y p) z := fun cenv A' E' s m F => fc_blt F hk hl hm hv ⟨hz, kp_refl _⟩ hn hd
/-- a built-in function of two arguments -/
theorem qv_blt2 {y : Str} {id : String} (hk : scope.kind = .function) (hl : scope.names.lookup y = some .globalImplicit) (hm : X.mg y = none) (hv : bootBuiltins y = some (.builtin id)) (ha : QV X σ H P scope x u a za) (hb : QV X σ H P scope x u b zb) (hr : QR X σ H P scope x u (fun v w => call (.builtin id) [v, w]) za zb z)
    (he : ∀ env, starEach [a, b] env = (false, eval a env) :: starEach [b] env := by intro _; rfl) (h2 : ∀ env, starEach [b] env = [(false, eval b env)] := by intro _; rfl) (hn : y ≠ "__name__" := by decide) (hd : (y == ("__debug__" : Str)) = false := by decide) :
    QV X σ H P scope x u (.Call (.Name y p) [a, b] [] pos) z := fun cenv A' E' s m F => by
  refine wpAny_Call_Name_kw (fc_blt F hk hl hm hv ?_ hn hd)
  refine PyProof.Rows.callWith_builtin1 ?_ (he cenv) (by rw [h2 cenv]; rfl)
  rw [he cenv, h2 cenv]
  show wpAny _ _ (spliced [(false, eval a cenv), (false, eval b cenv)]) _ _ s
  refine Calls.spliced_cons (wpAny_mono (ha cenv A' E' s m F) (fun v s1 r1 => ?_) fun _ _ e => e)
  refine Calls.spliced_cons (wpAny_mono (hb cenv A' E' s1 m (F.keeps r1.2)) (fun w s2 r2 => ?_) fun _ _ e => e)
  exact Calls.spliced_nil (wpAny_mono (hr cenv A' E' s2 m v w ((F.keeps r1.2).keeps r2.2) r1.1 r2.1) (fun y s3 r3 => ⟨r3.1, kp_trans (kp_trans r1.2 r2.2) r3.2⟩) fun _ _ e => e)
/-- what isinstance asks of a value -/
theorem kit_fc {cenv : Env} {A' : Around} {s : Shared} {m : Str → Option Value} {v : Value} {t : Value} (F : Fc X σ H P scope x u cenv A' s m) (hT : Tab H P) (r : RelV z v) (ty : TyOf X.K H z t) (no : ∀ a C dx fs, H a = some (.ins C dx fs) → z ≠ .ref a) :
    ∃ Pz : Heap → Prop, PySem.W.KitX X.K v t Pz ∧ Pz s.heap ∧ v ≠ .builtin "__main__.__loader__#opaque" := by
  have rd : ∀ {a : Addr} {o : HO}, H a = some o → (∀ φ, o ≠ .ext φ) → but P H a = some o := fun {a o} e n => by
    rw [but_ne fun z => by rw [z, hT] at e; exact n _ (Option.some.inj e).symm]
    exact e
  cases ty with
  | non => cases (show v = Value.none from r); exact ⟨_, PySem.W.kitx_none, True.intro, fun z => nomatch z⟩
  | bl y => cases (show v = Value.bool y from r); exact ⟨_, PySem.W.kitx_bool, True.intro, fun z => nomatch z⟩
  | int i => obtain ⟨t, q⟩ := (show ∃ t, v = Value.int i t from r); cases q; exact ⟨_, PySem.W.kitx_int, True.intro, fun z => nomatch z⟩
  | str y => obtain ⟨t, q⟩ := (show ∃ t, v = Value.str y t from r); cases q; exact ⟨_, PySem.W.kitx_str, True.intro, fun z => nomatch z⟩
  | flt y => obtain ⟨t, q⟩ := (show ∃ t, v = Value.float y t from r); cases q; exact ⟨_, PySem.W.kitx_float, True.intro, fun z => nomatch z⟩
  | @lst a xs ea =>
    cases (show v = Value.ref a from r)
    obtain ⟨_, _, n, _, h1⟩ := (show ObjOk X.prog X.w (but P H) s.heap a (.lst xs) from F.hok a _ (rd ea (fun φ z => by cases z)))
    exact ⟨_, PySem.W.kitx_list, ⟨_, h1, rfl⟩, fun z => nomatch z⟩
  | @frz a ob xs ea =>
    cases (show v = Value.ref a from r)
    obtain ⟨_, _, _, n, _, h1⟩ := (show ObjOk X.prog X.w (but P H) s.heap a (.frz ob (.lst xs)) from F.hok a _ (rd ea (fun φ z => by cases z)))
    exact ⟨_, PySem.W.kitx_list, ⟨_, h1, rfl⟩, fun z => nomatch z⟩
  | @tup a xs ea =>
    cases (show v = Value.ref a from r)
    obtain ⟨_, _, _, o, h1, h2, _⟩ := (show ObjOk X.prog X.w (but P H) s.heap a (.tup xs) from F.hok a _ (rd ea (fun φ z => by cases z)))
    exact ⟨_, PySem.W.kitx_tuple, ⟨o, h1, h2⟩, fun z => nomatch z⟩
  | @dK a kvs ea =>
    cases (show v = Value.ref a from r)
    obtain ⟨_, _, vs, _, o, es, ep, h1, h2, _⟩ := F.hok a _ (rd ea (fun φ z => by cases z))
    exact ⟨_, PySem.W.kitx_dict, ⟨o, h1, h2.1⟩, fun z => nomatch z⟩
  | @dT a kvs ea =>
    cases (show v = Value.ref a from r)
    obtain ⟨_, _, xs, _, o, es, ep, h1, h2, _⟩ := F.hok a _ (rd ea (fun φ z => by cases z))
    exact ⟨_, PySem.W.kitx_dict, ⟨o, h1, h2.1⟩, fun z => nomatch z⟩
  | @ins a C dx fs ea cl ha hn htk hm => exact absurd rfl (no a C dx fs ea)
theorem qr_isi {T : String} {t : Value} {b : Bool} (hT : Tab H P) (ty : TyOf X.K H z t) (no : ∀ a C dx fs, H a = some (.ins C dx fs) → z ≠ .ref a) (hk : PySem.W.kitOne X.K t (.type T) = some b) : QR X σ H P scope x u (fun v w => call (.builtin "isinstance") [v, w]) z (.ty T) (.bl b) := fun cenv A' E' s m v w F r1 r2 => by
  cases (show w = Value.type T from r2)
  obtain ⟨Pz, Z, p, hx⟩ := kit_fc F hT r1 ty no
  exact PySem.W.kia_one Z F.kin p hk hx fun tk => ⟨rfl, kp_tok _ _⟩
theorem qv_is {z' : V} (h : QV X σ H P scope x u a z) (e : z = z') : QV X σ H P scope x u a z' := e ▸ h
theorem qv_not {c : Bool} (ha : QV X σ H P scope x u a (.bl c)) : QV X σ H P scope x u (.UnaryOp .Not a pos) (.bl (!c)) := fun cenv A' E' s m F => by
  refine UnaryOp_ (wpAny_mono (ha cenv A' E' s m F) (fun v s1 r1 => ?_) fun _ _ e => e)
  obtain ⟨rfl, k⟩ := r1
  exact not_of (wpAny_truthy_bool ⟨rfl, k⟩)
theorem qv_one {op : BoolOp} (ha : QV X σ H P scope x u a z) : QV X σ H P scope x u (.BoolOp op [a] pos) z := fun cenv A' E' s m F => BoolOp_one (ha cenv A' E' s m F)
theorem qv_and {rest : List Expr} {c d : Bool} (ha : QV X σ H P scope x u a (.bl c)) (hb : c = true → QV X σ H P scope x u (.BoolOp .And (b :: rest) pos) (.bl d)) : QV X σ H P scope x u (.BoolOp .And (a :: b :: rest) pos) (.bl (c && d)) := fun cenv A' E' s m F => by
  refine BoolOp_and (wpAny_mono (ha cenv A' E' s m F) (fun v s1 r1 => ?_) fun _ _ e => e)
  obtain ⟨rfl, k⟩ := r1
  refine wpAny_truthy_bool ?_
  cases c with
  | true => exact wpAny_mono (hb rfl cenv A' E' s1 m (F.keeps k)) (fun y s3 r3 => ⟨r3.1, kp_trans k r3.2⟩) fun _ _ e => e
  | false => exact ⟨rfl, k⟩
theorem qr_ge_int {i j : Int} : QR X σ H P scope x u (compareOp .GtE) (.int i) (.int j) (.bl (decide (j ≤ i))) := fun cenv A' E' s m v w F r1 r2 => by
  obtain ⟨t, rfl⟩ := r1
  obtain ⟨t', rfl⟩ := r2
  exact ge_int ⟨rfl, kp_refl _⟩
/-- an own def of one argument whose body is one return -/
theorem qv_call1 {nm pn qual : Str} {st : Stmt} {f : Addr} {fd : FuncData} {N : List Str} {e : Expr} {rp : Pos} {k : Nat} (hr : Room k X.A) (hk : scope.kind = .function) (hl : scope.names.lookup nm = some .globalImplicit) (hm : X.mg nm = some (.ref f)) (F : Fun X.K nm qual st f fd) (hbody : defBody st = [.Return (some e) rp]) (S : FnScope N [pn] (defScope st)) (hloc : (defScope st).names.lookup pn = some .local)
    (hb : Binds X.K fd [pn] []) (ha : QV X σ H P scope x u a za) (he : ∀ (A0 : Around) (v : Value), RelV za v → QV { X with A := A0 } σ H P (defScope st) pn v e z) (hs : ∀ env, starEach [a] env = (false, eval a env) :: starEach [] env := by intro _; rfl) (hd : (nm == ("__debug__" : Str)) = false := by decide) :
    QV X σ H P scope x u (.Call (.Name nm p) [a] [] pos) z := fun cenv A' E' s m Fc0 => by
  refine wpAny_Call_Name_kw (Calls.Name_function_global (by rw [Fc0.sc]; exact hk) (show cenv.scope.names.lookup nm = some .globalImplicit by rw [Fc0.sc]; exact hl) (Calls.loadGlobal_global (by rw [Fc0.gl]; exact Fc0.md.glob.keeps Fc0.base) hm ?_) hd)
  refine PySem.W.callWith_K (h₀ := X.base) Fc0.md.kin F.kp ?_ (hs cenv) (by rfl)
  rw [hs cenv]
  show wpAny _ _ (spliced ((false, eval a cenv) :: [])) _ _ s
  refine Calls.spliced_cons (wpAny_mono (ha cenv A' E' s m Fc0) (fun v s1 r1 => Calls.spliced_nil ?_) fun _ _ e => e)
  have F1 := Fc0.keeps r1.2
  refine ⟨F1.kin, ?_⟩
  obtain ⟨oc, od, kV, doc, pm, an, cdv, ct, osl, rfl, lk, hcd⟩ := F.ex
  refine wpAny_call (Att.call_fn (binds := [(pn, v)]) F1.kin (F1.md.nolimit.keeps F1.base) lk hcd (by have := hr.dp; have := Fc0.dp; omega) (hb s1 [v] F1.kin rfl) ?_ (fun s2 IC => ?_) S.co S.gen S.kind)
  · simp only [List.all_cons, List.all_nil, Bool.and_true, Bool.or_eq_true, beq_iff_eq]
    exact .inl hloc
  · obtain ⟨h2, tk2, rfl⟩ := IC.toInCall.same
    have kk : ∀ b o, s1.heap.get? b = some o → h2.get? b = some o := IC.toInCall.keep
    rw [hbody]
    have Fn : Fc { X with A := A' } σ H P (defScope st) pn v (envOfC qual (defScope st) s1.heap.objs.size f cdv) (A'.deeper (envOfC qual (defScope st) s1.heap.objs.size f cdv)) { s1 with heap := h2, toks := tk2 } _ :=
      ⟨Fc0.hd, Nat.le_refl _, by show A'.units + 3 ≤ A'.units + 8; omega, rfl, rfl, rfl, IC.toInCall.ns, by
        show bindL _ [(pn, v)] _ pn = some v
        unfold bindL
        have hkd : (envOfC qual (defScope st) s1.heap.objs.size f cdv).kindOf pn = some .local := hloc
        rw [hkd]
        simp [bindL], fun b o e => kk b o (F1.base b o e), F1.md, F1.hok.kept kk, fun i y w h1 h2 h3 h4 => absurd rfl (S.nofree (y, .free) (lookup_mem' h4))⟩
    refine wpAny_execs_cons (wpAny_Return_some (wpAny_mono (he A' v r1.1 _ _ _ _ _ Fn) (fun y s3 r3 => ⟨r3.1, kp_trans (kp_trans r1.2 ⟨h2, tk2, rfl, kk⟩) r3.2⟩) fun _ _ e => e))
end
end LQ

set_option Elab.async false
set_option linter.all false
set_option maxRecDepth 100000
set_option maxHeartbeats 4000000
namespace LX
open PySem PySem.Spec PyProof.Rows L2 Evl LT LG LS
/-! ### own exceptions without arguments -/
abbrev veTail : List Value := [.type "ValueError", .type "Exception", .type "BaseException", .type "object"]
/-- an exception class of the text: its name, what the written part says of it -/
structure Xc (K : PySem.W.Frag) (mg : Str → Option Value) (nm : Str) (C : Addr) : Prop where
  g : mg nm = some (.ref C)
  x : PySem.W.excIn K C veTail "ValueError.__new__" = true
  k : PySem.W.keepIn K (.ref C) = true
  b : PySem.W.subIn K (.ref C) (.type "BaseException") = some true
  t : PySem.W.typeIn K (.ref C) = some (.type "type")
  d : PySem.W.hasDictIn K C = true
section
variable {X : Cx} {C D : Addr} {nm : Str}
theorem pmk_own0 {p pos : Pos} (T : Xc X.K X.mg nm C) (hg : Gl X nm) (hdb : (nm == ("__debug__" : Str)) = false := by decide) : PMk X (.Call (.Name nm p) [] [] pos) (fun _ H Q => Q (.ref C) none H) := by
  intro pins s σ H Q I h
  refine wpAny_Call_Name_kw (ld_glob I hg T.g ?_ hdb)
  refine PySem.W.callWith_K0 I.kIn T.k ?_
  show wpAny _ _ (call (.ref C) []) _ _ _
  obtain ⟨_, _, _, _, _, _, _, _, _, _, _, _, _, _, _, _, _, hC, hN, hni, TT⟩ := exc_obj I.kIn T.x
  refine wpAny_call_exc_subT PySem.F.excBase_ValueError TT hC hN hni (fun h' e hm => ?_) (Nat.zero_le _)
  exact mk_of I hm (raises_own T.b T.t) h (I.hok.gone hm.new)
theorem ps_raise0 {W : WX} {p pos pos2 : Pos} (hc : X.calm = true) (T : Xc X.K X.mg nm C) (tk : Takes X W) (hg : Gl X nm) (hdb : (nm == ("__debug__" : Str)) = false := by decide) : PS X (.Raise (some (.Call (.Name nm p) [] [] pos)) none pos2) (fun _ σ H => W (.ref C) none σ H) := ps_raise hc tk (pmk_own0 T hg hdb)
/-- isinstance(e, c), e what the suite holds -/
def rIsX (K : PySem.W.Frag) (D a : Addr) (cls : Value) (d : Option Addr) : List V → Hp → VK → Prop := fun xs H Q => cls = .ref D ∧ d = none ∧ rIsE K D a xs H Q
theorem call_isX {a : Addr} {oe : Obj} {cls : Value} {d : Option Addr} {pn : List (Addr × Obj)} (C : ExcC X.K D) (hz : Zc cls d oe) (hf : ∃ vs, oe.data = .fields vs) : CallR (X.suite a ((a, oe) :: pn)) (.builtin "isinstance") (rIsX X.K D a cls d) := by
  intro pins s σ H xs us Q I r h
  obtain ⟨rfl, rfl, h⟩ := h
  exact call_isE C hz hf pins s σ H xs us Q I r h
end
section
variable {K : PySem.W.Frag} {mg : Str → Option Value} {C D : Addr} {nm : Str} {b : Bool}
theorem Xc.exm (T : Xc K mg nm C) {cls : Value} (h : PySem.W.subIn K cls (.ref C) = some b) : PySem.W.exmOne K cls (.ref C) = some b := PySem.W.exm_ref T.b T.d T.t h
theorem Xc.kit (T : Xc K mg nm C) {cls : Value} (h : PySem.W.subIn K cls (.ref C) = some b) (hn : cls = .ref C → b = true) : PySem.W.kitOne K cls (.ref C) = some b := by
  have e := T.exm h
  unfold PySem.W.exmOne at e
  rw [T.b] at e
  unfold PySem.W.kitOne
  by_cases q : cls = .ref C
  · rw [hn q, q]
    simp
  · rw [if_neg (by simpa using q)]
    simpa using e
end
/-- a try whose suite returns: what the body's calls that return do, what the suite does -/
theorem ev_isX {K : PySem.W.Frag} {D a C : Addr} {σ : L2.St} {H : Hp} {ta tb : TE} {b : Bool} (h : Ev ta σ H (.ref a)) (hn : Ev tb σ H (.ref C)) (hk : PySem.W.kitOne K (.ref D) (.ref C) = some b) : Ev (tCB (rIsX K D a (.ref D) none) (tCons ta (tCons tb tNil))) σ H (.bl b) :=
  ev_cb (ea_cons h (ea_cons hn ea_nil)) fun H1 e Q q => ⟨rfl, rfl, .ref C, .ref C, b, rfl, fun u hu => hu, hk, q H1 (Ex.refl H1)⟩
theorem pass_own {X : Cx} {E : XK} (tk : Takes X (fun cls d _ H => E cls d H)) : Passes (L2.CX X.prog X.w) X E := passes_call tk fun _ _ _ _ h => h
end LX

set_option Elab.async false
set_option linter.all false
set_option maxRecDepth 100000
set_option maxHeartbeats 4000000
namespace LH
open PySem PySem.Spec PyProof.Rows L2 Evl LT LG
/-! ### generator expressions, whatever their elements do -/
/-- the context of a generator's frame: its own stack, what stands at its start -/
abbrev gnb (X : Cx) (A' : Around) (s : Shared) (H : Hp) (cenv : Env) (fp : List Addr) : Cx :=
  { X with A := A', s_0 := s, H_0 := H, env := cenv, outer := X.stack, stack := cenv :: X.stack, ex := fp, fn := fun _ => false, calm := true, pn := [], xe := fun _ _ => False }
/-- the frame's own environment -/
abbrev gnE (X : Cx) (scope : Scope) (C : Addr) (code : Value) : Env := genEnv scope (cloFrom X.env.cells scope.names []) C code builtinsNs X.env
section
variable {X : Cx} {pins : List (Addr × Obj)} {σ : L2.St} {H : Hp} {s : Shared}
theorem clo_back {cells : List (Str × Addr)} {scope : Scope} (hfree : ∀ y ∈ scope.names, y.2 = .free → ∃ c, cells.lookup y.1 = some c) {y : Str} {c : Addr} (e : (cloFrom cells scope.names []).lookup y = some c) : (y, NameKind.free) ∈ scope.names ∧ cells.lookup y = some c := by
  rcases cloFrom_mem (PySem.mem_of_lookup e) with h | ⟨h1, h2⟩
  · cases h
  · obtain ⟨d, hd⟩ := hfree _ h1 rfl
    have hd' : cells.lookup y = some d := hd
    rw [hd'] at h2
    exact ⟨h1, by rw [hd', h2]; rfl⟩
theorem gen_begin {A' : Around} {scope : Scope} {own : List (Str × Nat)} {fp : List Addr} {code : Value} {m : Str → Option Value} {h' : Heap} {g' : Array GenState} {t' : Nat} (I : Inv X pins σ H s) (ok : BlkOk X.N X.env.scope scope own) (hcell : ∀ y ∈ scope.names, y.2 ≠ .cell) (hN : X.N.Nodup)
    (hfp : ∀ b ∈ fp, FpOk X pins H b ∧ b < s.heap.objs.size) (hA : A'.handled = none) (hfr : A'.frames = some (gnE X scope s.heap.objs.size code :: X.stack)) (hk : ∀ b o, s.heap.get? b = some o → h'.get? b = some o) (hn : h'.Ns s.heap.objs.size m) (hg : AllBare g') :
    Inv (gnb X A' s H (gnE X scope s.heap.objs.size code) fp) [] (wipe σ (own.map (·.2))) H { s with heap := h', gens := g', toks := t' } := by
  have hfree : ∀ y ∈ scope.names, y.2 = .free → ∃ c, X.env.cells.lookup y.1 = some c := fun y hy e => (ok.free y hy e).elim (fun k => I.ok.has _ (.inl k)) fun k => I.ok.has _ (.inr k)
  have back : ∀ {y : Str} {c : Addr}, (gnE X scope s.heap.objs.size code).cells.lookup y = some c → (y, NameKind.free) ∈ scope.names ∧ X.env.cells.lookup y = some c := fun {y c} e => clo_back hfree e
  have clt : ∀ {y : Str} {c : Addr}, X.env.cells.lookup y = some c → c < s.heap.objs.size := fun {y c} e => let ⟨_, z⟩ := I.cell _ _ e; z.lt
  have fwd : ∀ {y : Str}, scope.names.lookup y = some .free → ∃ c, (gnE X scope s.heap.objs.size code).cells.lookup y = some c ∧ X.env.cells.lookup y = some c := fun {y} hl =>
    let ⟨c, hc⟩ := hfree _ (PySem.mem_of_lookup hl) rfl
    ⟨c, clo_lookup (PySem.mem_of_lookup hl) hc, hc⟩
  have okG : (gnb X A' s H (gnE X scope s.heap.objs.size code) fp).Ok := by
    refine ⟨I.ok.mod, ok.kind, I.ok.glob, rfl, Nat.le_refl _, fun y z c e1 e2 => I.ok.inj y z c (back e1).2 (back e2).2, fun y hy => ?_, fun y c z => (Bool.noConfusion (show false = true from z)), fun _ => hA, hfr, .inr ⟨rfl, rfl⟩, fun b hb => ⟨Nat.ne_of_lt (hfp b hb).2, fun y c e z => (hfp b hb).1.2.2.2.2.1 y c (back e).2 z⟩, I.bs, Nat.le_trans I.ok.bsz I.sz, fun b o e hb => ?_, fun b hb z => ?_, I.stack, I.stkFree⟩
    · rcases hy with hy | hy
      · exact absurd rfl (hcell _ (PySem.mem_of_lookup (show scope.names.lookup y = some .cell from hy)))
      · obtain ⟨c, h1, _⟩ := fwd (show scope.names.lookup y = some .free from hy)
        exact ⟨c, h1⟩
    · rcases (hfp b hb).1.2.2.2.1 with z | z
      · exact I.ok.noex b o e z
      · exact Nat.lt_irrefl _ (Nat.lt_of_lt_of_le (Nat.lt_of_lt_of_le (Heap.lt_size e) I.ok.bsz) z)
    · rcases List.mem_cons.mp (I.stkSub b z) with z | z
      · exact (hfp b hb).1.2.1 z
      · exact (hfp b hb).1.2.2.1 z
  refine ⟨okG, rfl, hg, Un.kept hk, ⟨m, hn, fun i y av e1 e2 e3 => ?_⟩, fun y c e => ?_, I.hok.fresh (Nat.le_refl _), fun y c e => I.freeC y c (back e).2, fun p hp => absurd (show p ∈ ([] : List (Addr × Obj)) ++ [] from hp) (by simp), I.hok.kept hk, by rw [wipe_length]; exact I.len⟩
  · obtain ⟨e2, hne⟩ := wipe_some e2
    have hfr : scope.names.lookup y = some .free := by
      have no : ∀ k, scope.names.lookup y = some k → ¬ (k = .local ∨ k = .cell) := fun k hk hh => by
        rcases ok.own _ (PySem.mem_of_lookup hk) hh with e' | e'
        · obtain ⟨p, hp, hpy⟩ := List.mem_map.mp e'
          have e4 := ok.ix p hp
          have : p.1 = y := hpy
          rw [this] at e4
          exact hne (List.mem_map.mpr ⟨p, hp, nodup_ix hN e4 e1⟩)
        · exact e' (List.mem_of_getElem? e1)
      rcases (show Vis scope y from e3) with e3 | e3 | e3
      · exact absurd (.inl rfl) (no _ e3)
      · exact absurd (.inr rfl) (no _ e3)
      · exact e3
    obtain ⟨m0, _, hl⟩ := I.loc
    have hvis : Vis X.env.scope y := (ok.free _ (PySem.mem_of_lookup hfr) rfl).elim (fun k => .inr (.inl k)) fun k => .inr (.inr k)
    obtain ⟨w, r, q⟩ := hl i y av e1 e2 hvis
    obtain ⟨c, h1, h2⟩ := fwd hfr
    refine ⟨w, r, .inr ⟨.inr hfr, c, h1, ?_⟩⟩
    rcases q with ⟨k, _⟩ | ⟨_, c', e', z⟩
    · have k : X.env.scope.names.lookup y = some .local := k
      rcases ok.free _ (PySem.mem_of_lookup hfr) rfl with k' | k' <;> rw [show X.env.scope.names.lookup y = _ from k'] at k <;> cases k
    · rw [h2] at e'; cases e'
      exact z.keeps hk
  · obtain ⟨w, z⟩ := I.cell y c (back e).2
    exact ⟨w, z.keeps hk⟩
/-! ### turns -/
/-- what stands between two turns: i taken -/
def Btw (Y : Cx) (a : Addr) (oa : Obj) (τ : L2.St) (fp : List Addr) (tn : Nat → Heap → Prop) (W : Nat → Hp → Prop) (Sp : List Addr) (i : Nat) (s : Shared) : Prop :=
  ∃ (H' : Hp) (ps : List (Addr × Obj)), ps.map (·.1) = Sp ∧ Inv Y ((a, oa) :: ps) τ H' s ∧ tn i s.heap ∧ (∀ b ∈ fp, FpOk Y ((a, oa) :: ps) H' b) ∧ W i H'
/-- the end -/
def Gone (Y : Cx) (a : Addr) (oa : Obj) (τ : L2.St) (W : Nat → Hp → Prop) (n : Nat) (Sp : List Addr) (s : Shared) : Prop :=
  ∃ (H' : Hp) (ps : List (Addr × Obj)) (i : Nat), i ≤ n ∧ ps.map (·.1) = Sp ∧ Inv Y ((a, oa) :: ps) τ H' s ∧ W i H'
def Same (Sp : List Addr) (s s' : Shared) : Prop := ∀ b ∈ Sp, ∃ o, s.heap.get? b = some o ∧ s'.heap.get? b = some o
theorem Same.trans {Sp : List Addr} {s s1 s2 : Shared} (a : Same Sp s s1) (b : Same Sp s1 s2) : Same Sp s s2 := fun x hx => by
  obtain ⟨o, h1, h2⟩ := a x hx
  obtain ⟨o', h3, h4⟩ := b x hx
  rw [h2] at h3
  cases h3
  exact ⟨o, h1, h4⟩
theorem same_pins {Y : Cx} {p : Addr × Obj} {ps q1 q2 : List (Addr × Obj)} {τ τ' : L2.St} {H H' : Hp} {s s' : Shared} (I : Inv Y (p :: ps ++ q1) τ H s) (I' : Inv Y (p :: ps ++ q2) τ' H' s') : Same (ps.map (·.1)) s s' := fun b hb => by
  obtain ⟨x, hx, rfl⟩ := List.mem_map.mp hb
  have m : ∀ q, x ∈ Y.pn ++ (p :: ps ++ q) := fun q => List.mem_append_right _ (List.mem_append_left _ (List.mem_cons_of_mem _ hx))
  exact ⟨x.2, (I.pin x (m _)).1, (I'.pin x (m _)).1⟩
theorem same_pins0 {Y : Cx} {p : Addr × Obj} {ps : List (Addr × Obj)} {τ τ' : L2.St} {H H' : Hp} {s s' : Shared} (I : Inv Y (p :: ps) τ H s) (I' : Inv Y (p :: ps) τ' H' s') : Same (ps.map (·.1)) s s' :=
  same_pins (q1 := []) (q2 := []) (by simpa using I) (by simpa using I')
/-- what is handed out -/
def GPr (vals : Nat → V) (n : Nat) (Sp : List Addr) (J : Nat → Shared → Prop) : Protocol := fun m s₀ v s kap =>
  ∃ i, i + m + 1 = n ∧ RelV (vals i) v ∧ Same Sp s₀ s ∧ J (i + 1) s ∧ ∀ s'', J (i + 1) s'' → kap (.send .none) s''
theorem seg_turns {A₁ : Around} {elt tg iter : Expr} {scope : Scope} {pos : Pos} {it a : Addr} {oa : Obj} {cenv : Env} {Y : Cx} {fp : List Addr} {tn : Nat → Heap → Prop} {J : It} {W : Nat → Hp → Prop} {Sp : List Addr} {n : Nat} {vals : Nat → V} {g : TG} {te : TE} {vs : List Nat} {σ : L2.St}
    (hYA : Y.A = A₁.over (.compLoop (.GeneratorExp elt [⟨tg, iter, [], 0⟩] scope pos) 0 (.ref it) .none cenv) []) (hYe : Y.env = cenv) (hc : Y.calm = true) (hxe : Y.xe = fun _ _ => False) (hco : cenv.scope.isCoroutine = false) (T : Turn Y.prog Y.w Y.K tg J fp it tn) (pg : PG Y tg g) (pe : PE Y elt te)
    (turn : ∀ i H', i < n → W i H' → J.go i H' ∧ ∀ x H2, J.yld i H' x H2 → g x (wipe σ vs) H2 fun σ2 H3 => wipe σ2 vs = wipe σ vs ∧ te σ2 H3 fun y H4 => y = vals i ∧ W (i + 1) H4) (stop : ∀ H', W n H' → J.stop n H') :
    ∀ (k i : Nat) (s₀ s : Shared), n - i = k → i ≤ n → Same Sp s₀ s → Btw Y a oa (wipe σ vs) fp tn W Sp i s →
      Seg (model Y.prog Y.w) A₁ (fun m s₀ r s₁ => r = .ok .next ∧ (m = 0 ∧ (Same Sp s₀ s₁ ∧ Gone Y a oa (wipe σ vs) W n Sp s₁))) (GPr vals n Sp (Btw Y a oa (wipe σ vs) fp tn W Sp)) (n - i) s₀
        (.compLoop (.GeneratorExp elt [⟨tg, iter, [], 0⟩] scope pos) 0 (.ref it) .none cenv) ((model Y.prog Y.w).den (.compLoop (.GeneratorExp elt [⟨tg, iter, [], 0⟩] scope pos) 0 (.ref it) .none cenv)) [] s := by
  intro k
  induction k with
  | zero =>
    intro i s₀ s hk hi hS ⟨H', ps, hps, I, st, hf, w⟩
    obtain rfl : i = n := by omega
    show Seg _ A₁ _ _ _ s₀ _ ((compTurn (.GeneratorExp elt [⟨tg, iter, [], 0⟩] scope pos) 0 (.ref it) .none cenv).onRaise (leaving cenv)) [] s
    rw [compTurn_gen, Sem.onRaise_eq_wrap]
    refine seg_bind_wrap (wpAny_standAt (seg_bind_wrap ?_))
    have td := T.done Y rfl rfl rfl hc i _ s _ H' (fun _ _ => False) I hf st (stop _ w)
    rw [hYA] at td
    refine thnF td fun r s1 ⟨hr, I1⟩ => ?_
    subst hr
    exact seg_end (.ok .next) ⟨rfl, by omega, hS.trans (hps ▸ same_pins0 I I1), H', ps, i, Nat.le_refl _, hps, I1, w⟩
  | succ k ih =>
    intro i s₀ s hk hi hS ⟨H', ps, hps, I, st, hf, w⟩
    have hlt : i < n := by omega
    obtain ⟨m, hm⟩ : ∃ m, n - i = m + 1 := ⟨n - i - 1, by omega⟩
    show Seg _ A₁ _ _ _ s₀ _ ((compTurn (.GeneratorExp elt [⟨tg, iter, [], 0⟩] scope pos) 0 (.ref it) .none cenv).onRaise (leaving cenv)) [] s
    rw [compTurn_gen, Sem.onRaise_eq_wrap]
    refine seg_bind_wrap (wpAny_standAt (seg_bind_wrap ?_))
    obtain ⟨go, step⟩ := turn i H' hlt w
    have ti := T.item Y rfl rfl rfl hc i _ s _ H' (fun _ _ => False) I hf st go
    rw [hYA] at ti
    refine thnF ti fun r s6 ⟨u, hr, h6⟩ => ?_
    subst hr
    refine seg_bind_wrap (thnF h6 fun _ s7 ⟨x, H7, I7, r7, y7, st7, n7⟩ => ?_)
    have hf7 : ∀ b ∈ fp, FpOk Y ((a, oa) :: ps) H7 b := fun b hb => ⟨n7 b hb, (hf b hb).2⟩
    have I7' := I7.pinned hf7 (T.obj _ _ st7)
    have pgr := pg.run _ s7 _ H7 x u _ I7' r7 (step x H7 y7)
    rw [hYA, hYe, hxe] at pgr
    refine seg_bind_wrap (thnF pgr fun _ s8 ⟨σ8, H8, I8, hw8, q8⟩ => ?_)
    refine seg_bind_wrap (wpAny_tests_nil ?_)
    simp only [if_true]
    have hy : ∀ v, yieldOut cenv v = yieldValue v := fun v => by simp only [yieldOut, hco, Bool.false_eq_true, if_false]
    simp only [hy]
    rw [Sem.bind_eq_wrap', Sem.bind_eq_wrap', Sem.wrap_wrap, Sem.wrap_wrap, hm]
    have per := pe.run _ s8 σ8 H8 _ I8 q8
    rw [hYA, hYe, hxe] at per
    refine seg_wrap (thnF per fun v s9 ⟨y, H9, I9, r9, ey, w9⟩ => ?_)
    subst ey
    have keep : ∀ b ∈ fp, ∀ o, s7.heap.get? b = some o → s9.heap.get? b = some o ∧ H9 b = none := fun b hb o e =>
      let z := I9.pin (b, o) (List.mem_append_right _ (List.mem_append_right _ (mem_pinsAt hb e)))
      ⟨z.1, z.2.1⟩
    have hl : (wipe σ vs).length = σ8.length := by rw [← hw8, wipe_length]
    have B9 : Btw Y a oa (wipe σ vs) fp tn W Sp (i + 1) s9 := ⟨H9, ps, hps, (I9.unpinned).weak hl fun j v e => by
        rw [← hw8] at e
        exact (wipe_some e).1, T.keep _ _ _ st7 fun b hb o e => (keep b hb o e).1, fun b hb => by
        obtain ⟨o, e, _⟩ := T.obj _ _ st7 b hb
        exact ⟨(keep b hb o e).2, (hf b hb).2⟩, w9⟩
    have S9 : Same Sp s₀ s9 := hS.trans (hps ▸ same_pins (q1 := []) (by simpa using I) I9)
    refine seg_at (seg_yield rfl rfl rfl ⟨i, by omega, r9, S9, B9, fun s'' B'' => ?_⟩)
    have e1 : m = n - (i + 1) := by omega
    rw [e1]
    exact seg_again rfl (ih (i + 1) s'' s'' (by omega) hlt (fun b hb => by
      obtain ⟨H2, ps2, hps2, I2, _⟩ := B''
      rw [← hps2] at hb
      obtain ⟨z, hz, rfl⟩ := List.mem_map.mp hb
      exact ⟨z.2, (I2.pin z (List.mem_append_right _ (List.mem_cons_of_mem _ hz))).1, (I2.pin z (List.mem_append_right _ (List.mem_cons_of_mem _ hz))).1⟩) B'')
end
end LH
namespace LH
open PySem PySem.Spec PyProof.Rows L2 Evl LT LG
section
variable {prog : Program} {w : World} {A : Around} {E : Value → Shared → Prop} {s : Shared}
/-- the generator number g, j of its n items taken -/
def GSt (prog : Program) (w : World) (A : Around) (g n : Nat) (vals : Nat → V) (Sp : List Addr) (J : Nat → Shared → Prop) (Fn : Shared → Prop) (j : Nat) (s : Shared) : Prop :=
  J j s ∧ ∃ gs, s.gens[g]? = some gs ∧ ∀ s'', J j s'' → gs.Goes (model prog w) A.in1 (fun m s₀ r s₁ => r = .ok .next ∧ (m = 0 ∧ (Same Sp s₀ s₁ ∧ Fn s₁))) (GPr vals n Sp J) (n - j) (.send .none) s''
structure JOk (a : Addr) (g : Nat) (J : Nat → Shared → Prop) (Fn : Shared → Prop) : Prop where
  gen : ∀ j s, J j s → s.heap.IsGen a g
  lim : ∀ j s, J j s → s.heap.NoLimit
  set : ∀ j s x, x.bare = true → J j s → J j (s.setGen g x)
  fin : ∀ s h', Fn s → (∀ b o, s.heap.get? b = some o → h'.get? b = some o) → Fn { s.setGen g .finished with heap := h' }
/-- what a consumer may do with the iterator at a -/
structure WG (prog : Program) (w : World) (A : Around) (a : Addr) (n : Nat) (vals : Nat → V) (Sp : List Addr) (St : Nat → Shared → Prop) (Fin : Shared → Prop) : Prop where
  item : ∀ i (s : Shared) (Q : Option Value → Shared → Prop) (E : Value → Shared → Prop), i < n → St i s → (∀ v s', RelV (vals i) v → St (i + 1) s' → Same Sp s s' → Q (some v) s') → wpAny (model prog w) A (pyNext (.ref a)) Q E s
  done : ∀ (s : Shared) (Q : Option Value → Shared → Prop) (E : Value → Shared → Prop), St n s → (∀ s', Fin s' → Same Sp s s' → Q none s') → wpAny (model prog w) A (pyNext (.ref a)) Q E s
  self : ∀ i (s : Shared) (Q : Value → Shared → Prop) (E : Value → Shared → Prop), St i s → Q (.ref a) s → wpAny (model prog w) A (pyIter (.ref a)) Q E s
  fin : ∀ i s, i ≤ n → St i s → Fin s
  upd : ∀ i (s : Shared) h' tk, St i s → (∀ b o, b ∉ Sp → s.heap.get? b = some o → h'.get? b = some o) → (∀ b ∈ Sp, ∃ o, h'.get? b = some o ∧ ∀ v, o.data ≠ .cell v) → St i { s with heap := h', toks := tk }
  finU : ∀ (s : Shared) h' tk, Fin s → (∀ b o, b ∉ Sp → s.heap.get? b = some o → h'.get? b = some o) → (∀ b ∈ Sp, ∃ o, h'.get? b = some o ∧ ∀ v, o.data ≠ .cell v) → Fin { s with heap := h', toks := tk }
theorem WG.of_in1 {a : Addr} {n : Nat} {vals : Nat → V} {Sp : List Addr} {St : Nat → Shared → Prop} {Fin : Shared → Prop} (W : WG prog w A.in1 a n vals Sp St Fin) : WG prog w A a n vals Sp St Fin :=
  ⟨fun i s Q E hi st hQ => wpAny_of_in1 (W.item i s Q E hi st hQ), fun s Q E st hQ => wpAny_of_in1 (W.done s Q E st hQ), fun i s Q E st hQ => wpAny_of_in1 (W.self i s Q E st hQ), W.fin, W.upd, W.finU⟩
theorem gst_item {a : Addr} {g n j : Nat} {vals : Nat → V} {Sp : List Addr} {J : Nat → Shared → Prop} {Fn : Shared → Prop} {Q : Option Value → Shared → Prop} (hh : A.handled = none) (hroom : A.depth < recursionLimit) (K : JOk a g J Fn) (hj : j < n) (st : GSt prog w A g n vals Sp J Fn j s)
    (hQ : ∀ v s', RelV (vals j) v → GSt prog w A g n vals Sp J Fn (j + 1) s' → Same Sp s s' → Q (some v) s') : wpAny (model prog w) A (pyNext (.ref a)) Q E s := by
  obtain ⟨hJ, gs, hgs, hgo⟩ := st
  obtain ⟨m, hm⟩ : ∃ m, n - j = m + 1 := ⟨n - j - 1, by omega⟩
  rw [hm] at hgo
  refine GenW.wpAny_gsz (Nat.le_refl s.gens.size) (wpAny_pyNext_genexpQ (P := fun k s₀ s₁ => k = 0 ∧ (Same Sp s₀ s₁ ∧ Fn s₁)) hh (K.lim _ _ hJ) hroom (K.gen _ _ hJ) hgs (hgo _ (K.set _ _ _ rfl hJ)) (fun v s₁ gs' hb hv => ?_) (fun s₁ hp h' hk => absurd hp.1 (Nat.succ_ne_zero m)))
  obtain ⟨i, hi, hr, hS, hJ1, hkap⟩ := hv
  intro hsz
  obtain rfl : i = j := by omega
  have hgl : g < s₁.gens.size := by
    rw [GenW.setGen_size] at hsz
    exact Nat.lt_of_lt_of_le (Array.getElem?_eq_some_iff.mp hgs).1 hsz
  refine hQ v _ hr ⟨K.set _ _ _ hb hJ1, gs', by simp [Shared.setGen, hgl], fun s'' hs => ?_⟩ hS
  have e : n - (i + 1) = m := by omega
  rw [e]
  exact hkap s'' hs
theorem gst_done {a : Addr} {g n : Nat} {vals : Nat → V} {Sp : List Addr} {J : Nat → Shared → Prop} {Fn : Shared → Prop} {Q : Option Value → Shared → Prop} (hh : A.handled = none) (hroom : A.depth < recursionLimit) (K : JOk a g J Fn) (st : GSt prog w A g n vals Sp J Fn n s)
    (hQ : ∀ s', Fn s' → Same Sp s s' → Q none s') : wpAny (model prog w) A (pyNext (.ref a)) Q E s := by
  obtain ⟨hJ, gs, hgs, hgo⟩ := st
  rw [Nat.sub_self] at hgo
  refine wpAny_pyNext_genexpQ (P := fun k s₀ s₁ => k = 0 ∧ (Same Sp s₀ s₁ ∧ Fn s₁)) hh (K.lim _ _ hJ) hroom (K.gen _ _ hJ) hgs (hgo _ (K.set _ _ _ rfl hJ)) (fun v s₁ gs' hb hv => ?_) (fun s₁ hp h' hk => ?_)
  · obtain ⟨i, _, _, _, hJ1, hkap⟩ := hv
    exact (hkap s₁ hJ1).elim
  · exact hQ _ (K.fin _ _ hp.2.2 hk) fun b hb => let ⟨o, h1, h2⟩ := hp.2.1 b hb; ⟨o, h1, hk _ _ h2⟩
end
/-! ### consumers -/
section
variable {prog : Program} {w : World} {A : Around} {E : Value → Shared → Prop} {R : Result → Shared → Prop} {s : Shared} {a : Addr} {n : Nat} {vals : Nat → V} {St : Nat → Shared → Prop} {Fin : Shared → Prop}
theorem drop_at {n i : Nat} (h : i < n) : (List.range n).drop i = i :: (List.range n).drop (i + 1) := by
  rw [List.drop_eq_getElem_cons (by rw [List.length_range]; exact h), List.getElem_range]
theorem all_turns {f : Nat → Bool} (W : WG prog w A.in1 a n vals [] St Fin) (hv : ∀ i, vals i = .bl (f i)) : ∀ (k i : Nat) (s : Shared), n - i = k → i ≤ n → St i s → (∀ s', Fin s' → R (.ok (.ret (.bool (((List.range n).drop i).all f)))) s') → codeAny (model prog w) A (.builtin "all.loop" ⟨[.ref a], []⟩) R s := by
  intro k
  induction k with
  | zero =>
    intro i s hk hi st hR
    obtain rfl : i = n := by omega
    refine codeAny_builtin F.entry_all_loop (by
      rw [Around.under_plainId F.plain_all_loop _]
      show wpAny _ A.in1 (pyNext (.ref a) >>= _) _ _ s
      refine wpAny_bind (W.done s _ _ st fun s' hF _ => wpAny_bind (wpAny_rule (wpAny_pure ?_)))
      have q := hR s' hF
      rw [List.drop_of_length_le (by rw [List.length_range] <;> exact Nat.le_refl _)] at q
      exact q)
  | succ k ih =>
    intro i s hk hi st hR
    have hlt : i < n := by omega
    refine codeAny_builtin F.entry_all_loop (by
      rw [Around.under_plainId F.plain_all_loop _]
      show wpAny _ A.in1 (pyNext (.ref a) >>= _) _ _ s
      refine wpAny_bind (W.item i s _ _ hlt st fun v s' r st' _ => wpAny_bind (wpAny_holding ?_))
      rw [hv i] at r
      obtain rfl : v = .bool (f i) := r
      rw [drop_at hlt, List.all_cons] at hR
      refine wpAny_truthy_bool (wpAny_bind (wpAny_letGo ?_))
      cases hb : f i with
      | true =>
        rw [hb] at hR
        exact wpAny_pure ⟨plainId_quiet F.plain_all_loop _, ih (i + 1) s' (by omega) hlt st' hR⟩
      | false =>
        rw [hb] at hR
        exact wpAny_bind (wpAny_rule (wpAny_pure (hR s' (W.fin _ _ hlt st')))))
theorem any_turns {f : Nat → Bool} (W : WG prog w A.in1 a n vals [] St Fin) (hv : ∀ i, vals i = .bl (f i)) : ∀ (k i : Nat) (s : Shared), n - i = k → i ≤ n → St i s → (∀ s', Fin s' → R (.ok (.ret (.bool (((List.range n).drop i).any f)))) s') → codeAny (model prog w) A (.builtin "any.loop" ⟨[.ref a], []⟩) R s := by
  intro k
  induction k with
  | zero =>
    intro i s hk hi st hR
    obtain rfl : i = n := by omega
    refine codeAny_builtin F.entry_any_loop (by
      rw [Around.under_plainId F.plain_any_loop _]
      show wpAny _ A.in1 (pyNext (.ref a) >>= _) _ _ s
      refine wpAny_bind (W.done s _ _ st fun s' hF _ => wpAny_bind (wpAny_rule (wpAny_pure ?_)))
      have q := hR s' hF
      rw [List.drop_of_length_le (by rw [List.length_range] <;> exact Nat.le_refl _)] at q
      exact q)
  | succ k ih =>
    intro i s hk hi st hR
    have hlt : i < n := by omega
    refine codeAny_builtin F.entry_any_loop (by
      rw [Around.under_plainId F.plain_any_loop _]
      show wpAny _ A.in1 (pyNext (.ref a) >>= _) _ _ s
      refine wpAny_bind (W.item i s _ _ hlt st fun v s' r st' _ => wpAny_bind (wpAny_holding ?_))
      rw [hv i] at r
      obtain rfl : v = .bool (f i) := r
      rw [drop_at hlt, List.any_cons] at hR
      refine wpAny_truthy_bool (wpAny_bind (wpAny_letGo ?_))
      cases hb : f i with
      | false =>
        rw [hb] at hR
        exact wpAny_pure ⟨plainId_quiet F.plain_any_loop _, ih (i + 1) s' (by omega) hlt st' hR⟩
      | true =>
        rw [hb] at hR
        exact wpAny_bind (wpAny_rule (wpAny_pure (hR s' (W.fin _ _ hlt st')))))
theorem call_allG {f : Nat → Bool} {Q : Value → Shared → Prop} (W : WG prog w A.in1 a n vals [] St Fin) (hv : ∀ i, vals i = .bl (f i)) (st : St 0 s) (hQ : ∀ s', Fin s' → Q (.bool (allF n f)) s') : wpAny (model prog w) A (call (.builtin "all") [.ref a]) Q E s := by
  refine call_function_tree F.kind_all F.plain_all F.entry_all (F.args_all1 _) (by
    unfold Builtin.«all»
    refine wpAny_bind (m := oneArg "all" _) (wpAny_pure (wpAny_bind (W.self 0 s _ _ st ?_)))
    exact wpAny_pure ⟨plainId_quiet F.plain_all_loop _, all_turns W hv n 0 s rfl (Nat.zero_le _) st fun s' hF => by simpa [allF] using hQ s' hF⟩)
theorem call_anyG {f : Nat → Bool} {Q : Value → Shared → Prop} (W : WG prog w A.in1 a n vals [] St Fin) (hv : ∀ i, vals i = .bl (f i)) (st : St 0 s) (hQ : ∀ s', Fin s' → Q (.bool (anyF n f)) s') : wpAny (model prog w) A (call (.builtin "any") [.ref a]) Q E s := by
  refine call_function_tree F.kind_any F.plain_any F.entry_any (F.args_any1 _) (by
    unfold Builtin.«any»
    refine wpAny_bind (m := oneArg "any" _) (wpAny_pure (wpAny_bind (W.self 0 s _ _ st ?_)))
    exact wpAny_pure ⟨plainId_quiet F.plain_any_loop _, any_turns W hv n 0 s rfl (Nat.zero_le _) st fun s' hF => by simpa [anyF] using hQ s' hF⟩)
end
end LH
namespace LH
open PySem PySem.Spec PyProof.Rows L2 Evl LT LG
section
variable {X : Cx} {pins : List (Addr × Obj)} {σ : L2.St} {H : Hp} {s : Shared}
theorem inv_setGen {g : Nat} {x : GenState} (I : Inv X pins σ H s) (hx : x.bare = true) : Inv X pins σ H (s.setGen g x) :=
  ⟨I.ok, I.os, L2.allBare_setGen I.bare hx, I.base, I.loc, I.cell, I.free, I.freeC, I.pin, I.hok, I.len⟩
theorem pins_map {Sp : List Addr} {h : Heap} (hn : ∀ b ∈ Sp, ∃ o, h.get? b = some o ∧ ∀ v, o.data ≠ .cell v) : (pinsAt Sp h).map (·.1) = Sp := by
  induction Sp with
  | nil => rfl
  | cons b r ih =>
    obtain ⟨o, ho, _⟩ := hn b List.mem_cons_self
    have := ih fun c hc => hn c (List.mem_cons_of_mem _ hc)
    unfold pinsAt at this ⊢
    rw [List.filterMap_cons, ho]
    show b :: _ = _
    rw [this]
theorem inv_spec {Y : Cx} {p : Addr × Obj} {ps : List (Addr × Obj)} {Sp : List Addr} {τ : L2.St} {h' : Heap} {tk : Nat} (hpn : Y.pn = []) (hps : ps.map (·.1) = Sp) (hSp : ∀ b ∈ Sp, Y.s_0.heap.objs.size ≤ b ∧ b ≠ p.1) (I : Inv Y (p :: ps) τ H s)
    (k : ∀ b o, b ∉ Sp → s.heap.get? b = some o → h'.get? b = some o) (hn : ∀ b ∈ Sp, ∃ o, h'.get? b = some o ∧ ∀ v, o.data ≠ .cell v) : Inv Y (p :: pinsAt Sp h') τ H { s with heap := h', toks := tk } := by
  have pin : ∀ b ∈ Sp, H b = none ∧ b ≠ Y.env.locals ∧ b ∉ Y.fs ∧ ∃ o, s.heap.get? b = some o ∧ ∀ v, o.data ≠ .cell v := fun b hb => by
    rw [← hps] at hb
    obtain ⟨z, hz, rfl⟩ := List.mem_map.mp hb
    have y := I.pin z (List.mem_append_right _ (List.mem_cons_of_mem _ hz))
    exact ⟨y.2.1, y.2.2.1, y.2.2.2.1, z.2, y.1, y.2.2.2.2⟩
  have I1 : Inv Y [p] τ H s := I.pins_of fun q hq => I.pin q (List.mem_append_right _ (by rw [List.mem_singleton.mp hq]; exact List.mem_cons_self))
  have I2 := I1.turnedL (t' := tk) (ch := Sp) (h' := h') k fun b hb => ⟨(pin b hb).1, (pin b hb).2.1, (pin b hb).2.2.1, .inr (hSp b hb).1, fun x c e z => by
      obtain ⟨v, o', h1, h2⟩ := I.cell x c e
      obtain ⟨o, h3, h4⟩ := (pin b hb).2.2.2
      rw [z, h3] at h1
      cases h1
      exact h4 _ h2, fun q hq => by
      rw [hpn, List.nil_append] at hq
      rw [List.mem_singleton.mp hq]
      exact (hSp b hb).2.symm⟩
  refine I2.pins_of fun q hq => ?_
  rcases List.mem_cons.mp hq with rfl | hq
  · exact I2.pin _ (List.mem_append_right _ List.mem_cons_self)
  · obtain ⟨hb, e⟩ := of_pinsAt hq
    obtain ⟨o, h1, h2⟩ := hn _ hb
    rw [e] at h1
    cases h1
    exact ⟨e, (pin _ hb).1, (pin _ hb).2.1, (pin _ hb).2.2.1, h2⟩
section
variable {Y : Cx} {a : Addr} {oa : Obj} {τ : L2.St} {fp : List Addr} {tn : Nat → Heap → Prop} {W : Nat → Hp → Prop} {Sp : List Addr} {i n g : Nat} {J : It} {tg : Expr} {it : Addr}
theorem btw_upd {h' : Heap} {tk : Nat} (T : Turn Y.prog Y.w Y.K tg J fp it tn) (hpn : Y.pn = []) (hSp : ∀ b ∈ Sp, Y.s_0.heap.objs.size ≤ b ∧ b ≠ a) (B : Btw Y a oa τ fp tn W Sp i s) (k : ∀ b o, b ∉ Sp → s.heap.get? b = some o → h'.get? b = some o) (hn : ∀ b ∈ Sp, ∃ o, h'.get? b = some o ∧ ∀ v, o.data ≠ .cell v) :
    Btw Y a oa τ fp tn W Sp i { s with heap := h', toks := tk } := by
  obtain ⟨H', ps, hps, I, st, hf, w⟩ := B
  have nf : ∀ b ∈ fp, b ∉ Sp := fun b hb z => by
    rw [← hps] at z
    obtain ⟨q, hq, e⟩ := List.mem_map.mp z
    exact (hf b hb).2.2.2.2.2 q (List.mem_append_right _ (List.mem_cons_of_mem _ hq)) e
  refine ⟨H', _, pins_map hn, inv_spec hpn hps hSp I k hn, T.keep _ _ _ st fun b hb o e => k b o (nf b hb) e, fun b hb => ⟨(hf b hb).1, (hf b hb).2.1, (hf b hb).2.2.1, (hf b hb).2.2.2.1, (hf b hb).2.2.2.2.1, fun q hq e => ?_⟩, w⟩
  rw [hpn, List.nil_append] at hq
  rcases List.mem_cons.mp hq with rfl | hq
  · exact (hf b hb).2.2.2.2.2 (a, oa) (List.mem_append_right _ List.mem_cons_self) e
  · exact nf b hb (e ▸ (of_pinsAt hq).1)
theorem gone_upd {h' : Heap} {tk : Nat} (hpn : Y.pn = []) (hSp : ∀ b ∈ Sp, Y.s_0.heap.objs.size ≤ b ∧ b ≠ a) (B : Gone Y a oa τ W n Sp s) (k : ∀ b o, b ∉ Sp → s.heap.get? b = some o → h'.get? b = some o) (hn : ∀ b ∈ Sp, ∃ o, h'.get? b = some o ∧ ∀ v, o.data ≠ .cell v) :
    Gone Y a oa τ W n Sp { s with heap := h', toks := tk } := by
  obtain ⟨H', ps, i, hi, hps, I, w⟩ := B
  exact ⟨H', _, i, hi, pins_map hn, inv_spec hpn hps hSp I k hn, w⟩
theorem jok (hG : ∀ h : Heap, h.get? a = some oa → h.IsGen a g) : JOk a g (Btw Y a oa τ fp tn W Sp) (Gone Y a oa τ W n Sp) :=
  ⟨fun j s ⟨_, _, _, I, _⟩ => hG _ (I.pin (a, oa) (List.mem_append_right _ List.mem_cons_self)).1, fun j s ⟨_, _, _, I, _⟩ => I.nolimit, fun j s x hx ⟨H', ps, hps, I, r⟩ => ⟨H', ps, hps, inv_setGen I hx, r⟩,
    fun s h' ⟨H', ps, i, hi, hps, I, w⟩ k => by
      have J := (inv_setGen (g := g) (x := .finished) I rfl).kept (t' := s.toks) (h' := h') k
      refine ⟨H', ps, i, hi, hps, ?_, w⟩
      exact J.pins_of fun q hq => by
        have z := I.pin q (List.mem_append_right _ hq)
        exact ⟨k _ _ z.1, z.2⟩⟩
end
/-- the generator at a: for any consumer -/
def RdyX (X : Cx) (pins : List (Addr × Obj)) (σ : L2.St) (n : Nat) (vals : Nat → V) (QF : Hp → Prop) (a : Addr) (s5 : Shared) : Prop :=
  ∃ (St : List Addr → Nat → Shared → Prop) (Fin : List Addr → Shared → Prop), (∀ Sp, (∀ b ∈ Sp, s5.heap.objs.size ≤ b) → WG X.prog X.w X.A.in1 a n vals Sp (St Sp) (Fin Sp)) ∧
    (∀ Sp h' tk, (∀ b ∈ Sp, s5.heap.objs.size ≤ b) → (∀ b o, s5.heap.get? b = some o → h'.get? b = some o) → (∀ b ∈ Sp, ∃ o, h'.get? b = some o ∧ ∀ v, o.data ≠ .cell v) → St Sp 0 { s5 with heap := h', toks := tk }) ∧ ∀ Sp s', Fin Sp s' → ∃ H', Inv X pins σ H' s' ∧ QF H'
/-- (.. for t in e), handed to a consumer that makes r of what comes -/
def tGX (P : Addr) (ok : Nat → (Nat → V) → V → Prop) (wi : TI) (g : TG) (te : TE) (vs : List Nat) : TE := fun σ H Q => wi σ H fun J H1 => Tab H1 P ∧ ∃ (n : Nat) (vals : Nat → V) (r : V) (W : Nat → Hp → Prop), ok n vals r ∧ W 0 H1 ∧
  (∀ i H', i < n → W i H' → J.go i H' ∧ ∀ x H2, J.yld i H' x H2 → g x (wipe σ vs) H2 fun σ2 H3 => wipe σ2 vs = wipe σ vs ∧ te σ2 H3 fun y H4 => y = vals i ∧ W (i + 1) H4) ∧ (∀ H', W n H' → J.stop n H') ∧ ∀ i H', i ≤ n → W i H' → Q r H'
structure GenX (env : Env) (scope : Scope) : Prop where
  co : scope.isCoroutine = false
  cell : ∀ y ∈ scope.names, y.2 ≠ .cell
  dot : scope.names.lookup (".0" : Str) = some NameKind.local
theorem gen_makeX {c P : Addr} {elt tg iter : Expr} {scope : Scope} {own : List (Str × Nat)} {gpos : Pos} {wi : TI} {g : TG} {te : TE} {k : Nat} {Q : VK} {Q' : Value → Shared → Prop} {okc : Nat → (Nat → V) → V → Prop} (hr : Room (k + 1) X.A) (hN : X.N.Nodup) (TB : LamX.TabB X.base X.mg c P) (hcode : X.env.code = .ref c) (S : GenX X.env scope) (ok : BlkOk X.N X.env.scope scope own)
    (hi : PI X tg iter wi) (hs : ∀ v, genFold iter X.env v = pure v) (hg : ∀ (A' : Around) (s : Shared) (H : Hp) (C : Addr) (code : Value) (fp : List Addr), Room k A' → PG (gnb X A' s H (gnE X scope C code) fp) tg g) (he : ∀ (A' : Around) (s : Shared) (H : Hp) (C : Addr) (code : Value) (fp : List Addr), Room k A' → PE (gnb X A' s H (gnE X scope C code) fp) elt te)
    (I : Inv X pins σ H s) (h : tGX P okc wi g te (own.map (·.2)) σ H Q)
    (hQ : ∀ n vals r (W : Nat → Hp → Prop) a s5, okc n vals r → (∀ i H', i ≤ n → W i H' → Q r H') → RdyX X pins σ n vals (fun H' => ∃ i, i ≤ n ∧ W i H') a s5 → Q' (.ref a) s5) :
    wpAny (model X.prog X.w) X.A (eval (.GeneratorExp elt [⟨tg, iter, [], 0⟩] scope gpos) X.env) Q' X.xe s := by
  have hfree : ∀ y ∈ scope.names, y.2 = .free → ∃ c, X.env.cells.lookup y.1 = some c := fun y hy e => (ok.free y hy e).elim (fun k => I.ok.has _ (.inl k)) fun k => I.ok.has _ (.inr k)
  refine wpAny_GeneratorExp_make S.co (closure_ok hfree) S.cell S.dot ok.kind (by have := hr.dp; omega) (thn (hi.run pins s σ H _ I h) fun xv s1 h1 => thn h1 fun itv s2 h2 => ?_) hs
  obtain ⟨it, fp, tn, J, H2, rfl, I2, T, st2, f2, hT, n, vals, r, W, hok, w0, turn, stop, fin⟩ := h2
  refine ⟨I2.nolimit, ?_⟩
  obtain ⟨ps, hPs, ht⟩ := hT.of_ok I2.hok
  have cd : PySem.W.CodeHd s2.heap c P := TB.code.keeps fun b u e => I2.bk b u e
  have fpP : ∀ b ∈ fp, b ≠ P := fun b hb z => by
    have q := (f2 b hb).1
    rw [z, hT] at q
    cases q
  have go : ∀ (code : Value) (h3 : Heap) (tk : Nat) (ps' : Array Value), (∀ b o, b ≠ P → s2.heap.get? b = some o → h3.get? b = some o) → s2.heap.objs.size ≤ h3.objs.size → h3.get? P = some { cls := .none, data := .fields ps' } → TriplesOk ps'.toList →
      wpAny (model X.prog X.w) X.A (builtinsFor X.env.globals X.env.builtins) (fun bi s₄ => ∀ h', h'.Ns s₄.heap.objs.size (fun y => if y = ".0" then some (.ref it) else none) → Heap.SameBut s₄.heap.objs.size (s₄.heap.push { cls := .type "frame", data := .dict #[] }) h' →
          Q' (.ref h'.objs.size) { s₄ with
            gens := s₄.gens.push (.fresh (.compStart (.GeneratorExp elt [⟨tg, iter, [], 0⟩] scope gpos) 0 (.ref it) .none (genEnv scope (cloFrom X.env.cells scope.names []) s₄.heap.objs.size code bi X.env))),
            toks := s₄.toks + 1 + 1 + 1,
            heap := h'.push { cls := .type "generator", data := .fields #[.int s₄.gens.size 0, .str "<genexpr>" (s₄.toks + 1), .str (X.env.qual ++ "<genexpr>") (s₄.toks + 1 + 1)] } }) X.xe { s2 with heap := h3, toks := tk } := by
    intro code h3 tk ps' hx hsz hP3 ht3
    have I3 : Inv X pins σ H2 { s2 with heap := h3, toks := tk } := inv_grown I2 hT hx ⟨ps', hP3, ht3⟩ rfl I2.bare
    obtain ⟨bm, ob, e1, e2, e3, e4, e5, e6, e7, e8⟩ := TB.bm
    refine wpAny_builtinsFor (m := X.mg) (by rw [I3.ok.glob]; exact I3.mod.glob.keeps I3.bk) e1 e2 (hx _ _ e4 (I2.bk _ _ e5)) e6 e7 e8 ?_
    generalize hs3 : ({ s2 with heap := h3, toks := tk } : Shared) = s3 at I3 ⊢
    have hh3 : s3.heap = h3 := by rw [← hs3]
    intro h' hn' hs'
    have hsz' : h'.objs.size = s3.heap.objs.size + 1 := by rw [hs'.1, Heap.size_push]
    have keep' : ∀ b o, s3.heap.get? b = some o → h'.get? b = some o := fun b o e => hs'.extBut b o (Nat.ne_of_lt (Heap.lt_size e)) (Heap.get?_push_of_some _ e)
    generalize hoa : ({ cls := .type "generator", data := .fields #[.int s3.gens.size 0, .str "<genexpr>" (s3.toks + 1), .str (X.env.qual ++ "<genexpr>") (s3.toks + 1 + 1)] } : Obj) = oa
    have keep5 : ∀ b o, s3.heap.get? b = some o → (h'.push oa).get? b = some o := fun b o e => Heap.get?_push_of_some _ (keep' b o e)
    have hG : ∀ h : Heap, h.get? h'.objs.size = some oa → h.IsGen h'.objs.size s3.gens.size := fun h e => ⟨oa, _, _, e, by rw [← hoa], by rw [← hoa], by rw [← hoa]⟩
    have goa : (h'.push oa).get? h'.objs.size = some oa := Heap.get?_push_size _ (by rw [← hoa]; rfl)
    have noC : ∀ v, oa.data ≠ .cell v := fun v => by rw [← hoa]; intro z; cases z
    have nstk : ∀ b, s3.heap.objs.size ≤ b → b ∉ frs X.stack := fun b hb z => by
      rcases List.mem_cons.mp (I3.stkSub b z) with z | z
      · have := I3.lt
        rw [← z] at this
        exact Nat.lt_irrefl _ (Nat.lt_of_lt_of_le this hb)
      · exact I3.nofs hb z
    have f3 : ∀ b ∈ fp, FpOk X pins H2 b ∧ b < s3.heap.objs.size := fun b hb => by
      obtain ⟨o, e, _⟩ := T.obj _ _ st2 b hb
      exact ⟨f2 b hb, by rw [hh3]; exact Heap.lt_size (hx b o (fpP b hb) e)⟩
    have hA1 : (X.A.in4.in1.over (.compLoop (.GeneratorExp elt [⟨tg, iter, [], 0⟩] scope gpos) 0 (.ref it) .none (gnE X scope s3.heap.objs.size code)) []).handled = none := hr.hd
    have hfr1 : (X.A.in4.in1.over (.compLoop (.GeneratorExp elt [⟨tg, iter, [], 0⟩] scope gpos) 0 (.ref it) .none (gnE X scope s3.heap.objs.size code)) []).frames = some (gnE X scope s3.heap.objs.size code :: X.stack) := by
      show pushEnvs [_] (pushEnvs [] X.A.frames) = _
      rw [I3.ok.frames]
      rfl
    have hrm : Room k (X.A.in4.in1.over (.compLoop (.GeneratorExp elt [⟨tg, iter, [], 0⟩] scope gpos) 0 (.ref it) .none (gnE X scope s3.heap.objs.size code)) []) :=
      ⟨hr.hd, by have := hr.dp; show X.A.depth + 0 + 1 + 3 * k + 5 < _; omega, by have := hr.un; show X.A.units + 1 + 1 + 1 + 1 + 1 + 0 + 3 + 16 * k + 200 < _; omega⟩
    generalize hA' : X.A.in4.in1.over (.compLoop (.GeneratorExp elt [⟨tg, iter, [], 0⟩] scope gpos) 0 (.ref it) .none (gnE X scope s3.heap.objs.size code)) [] = A' at hA1 hfr1 hrm
    have pg := hg A' s3 H2 s3.heap.objs.size code fp hrm
    have pe := he A' s3 H2 s3.heap.objs.size code fp hrm
    have turns := fun (Sp : List Addr) => seg_turns (A₁ := X.A.in4.in1) (Y := gnb X A' s3 H2 (gnE X scope s3.heap.objs.size code) fp) (pos := gpos) (iter := iter) (scope := scope) (it := it) (a := h'.objs.size) (oa := oa) (Sp := Sp) (σ := σ) (vs := own.map (·.2)) hA'.symm rfl rfl rfl S.co T pg pe turn stop
    have begin_ : ∀ {h'' : Heap} {g' : Array GenState} {t' : Nat}, (∀ b o, (h'.push oa).get? b = some o → h''.get? b = some o) → AllBare g' → Inv (gnb X A' s3 H2 (gnE X scope s3.heap.objs.size code) fp) [] (wipe σ (own.map (·.2))) H2 { s3 with heap := h'', gens := g', toks := t' } := fun {h'' g' t'} k1 k2 =>
      gen_begin I3 ok S.cell hN f3 hA1 hfr1 (fun b o e => k1 b o (keep5 b o e)) (hn'.keeps fun b o e => k1 b o (Heap.get?_push_of_some _ e)) k2
    refine hQ n vals r W _ _ hok fin ⟨fun Sp => GSt X.prog X.w X.A.in4 s3.gens.size n vals Sp (Btw (gnb X A' s3 H2 (gnE X scope s3.heap.objs.size code) fp) h'.objs.size oa (wipe σ (own.map (·.2))) fp tn W Sp) (Gone (gnb X A' s3 H2 (gnE X scope s3.heap.objs.size code) fp) h'.objs.size oa (wipe σ (own.map (·.2))) W n Sp),
      fun Sp => Gone (gnb X A' s3 H2 (gnE X scope s3.heap.objs.size code) fp) h'.objs.size oa (wipe σ (own.map (·.2))) W n Sp, fun Sp hSp => ?_, fun Sp h'' tk' hSp hk hn => ?_, fun Sp s' hF => ?_⟩
    · have hSp' : ∀ b ∈ Sp, s3.heap.objs.size ≤ b ∧ b ≠ h'.objs.size := fun b hb => by
        have := hSp b hb
        rw [Heap.size_push] at this
        have h1 : s3.heap.objs.size ≤ h'.objs.size := by rw [hsz']; exact Nat.le_succ _
        exact ⟨Nat.le_trans h1 (Nat.le_of_succ_le this), fun e => by rw [e] at this; exact Nat.lt_irrefl _ this⟩
      have W4 : WG X.prog X.w X.A.in4 h'.objs.size n vals Sp (GSt X.prog X.w X.A.in4 s3.gens.size n vals Sp (Btw (gnb X A' s3 H2 (gnE X scope s3.heap.objs.size code) fp) h'.objs.size oa (wipe σ (own.map (·.2))) fp tn W Sp) (Gone (gnb X A' s3 H2 (gnE X scope s3.heap.objs.size code) fp) h'.objs.size oa (wipe σ (own.map (·.2))) W n Sp)) (Gone (gnb X A' s3 H2 (gnE X scope s3.heap.objs.size code) fp) h'.objs.size oa (wipe σ (own.map (·.2))) W n Sp) :=
        ⟨fun i s Q E hi st hQ => gst_item hr.hd (by have := hr.dp; show X.A.depth < _; omega) (jok hG) hi st hQ, fun s Q E st hQ => gst_done hr.hd (by have := hr.dp; show X.A.depth < _; omega) (jok hG) st hQ, fun i s Q E st hQ => wpAny_pyIter_gen ((jok (n := n) hG).gen _ _ st.1) hQ,
          fun i s hi st => let ⟨⟨H', ps, hps, I, _, _, w⟩, _⟩ := st; ⟨H', ps, i, hi, hps, I, w⟩, fun i s h'' tk' st k1 k2 => ⟨btw_upd T rfl hSp' st.1 k1 k2, st.2⟩, fun s h'' tk' st k1 k2 => gone_upd rfl hSp' st k1 k2⟩
      exact (W4.of_in1).of_in1.of_in1
    · have hlt : ∀ b ∈ Sp, s3.heap.objs.size ≤ b ∧ b ≠ h'.objs.size := fun b hb => by
        have := hSp b hb
        rw [Heap.size_push] at this
        have h1 : s3.heap.objs.size ≤ h'.objs.size := by rw [hsz']; exact Nat.le_succ _
        exact ⟨Nat.le_trans h1 (Nat.le_of_succ_le this), fun e => by rw [e] at this; exact Nat.lt_irrefl _ this⟩
      have ale : s3.heap.objs.size ≤ h'.objs.size := by rw [hsz']; exact Nat.le_succ _
      have I5 := begin_ (t' := tk') hk (I3.bare.push (g := .fresh (.compStart (.GeneratorExp elt [⟨tg, iter, [], 0⟩] scope gpos) 0 (.ref it) .none (gnE X scope s3.heap.objs.size code))) rfl)
      have J0 : Btw (gnb X A' s3 H2 (gnE X scope s3.heap.objs.size code) fp) h'.objs.size oa (wipe σ (own.map (·.2))) fp tn W Sp 0 { s3 with heap := h'', gens := s3.gens.push (.fresh (.compStart (.GeneratorExp elt [⟨tg, iter, [], 0⟩] scope gpos) 0 (.ref it) .none (gnE X scope s3.heap.objs.size code))), toks := tk' } := by
        refine ⟨H2, _, pins_map hn, I5.pins_of fun q hq => ?_, T.keep _ _ _ st2 fun b hb o e => hk _ _ (keep5 _ _ (by rw [hh3]; exact hx b o (fpP b hb) e)), fun b hb => ⟨(f2 b hb).1, Nat.ne_of_lt (f3 b hb).2, fun z => ?_, .inl hb, fun y c' e => (f2 b hb).2.2.2.2.1 y c' (clo_back hfree e).2, fun q hq e => ?_⟩, w0⟩
        · rcases List.mem_cons.mp hq with rfl | hq
          · exact ⟨hk _ _ goa, I3.hok.fresh ale, fun z => by
              have : h'.objs.size = s3.heap.objs.size := z
              rw [hsz'] at this
              exact Nat.succ_ne_self _ this, nstk _ ale, noC⟩
          · obtain ⟨hb, e⟩ := of_pinsAt hq
            obtain ⟨o, h1, h2⟩ := hn _ hb
            rw [e] at h1
            cases h1
            refine ⟨e, I3.hok.fresh (hlt _ hb).1, fun z => ?_, nstk _ (hlt _ hb).1, h2⟩
            have z : q.1 = s3.heap.objs.size := z
            have := hSp _ hb
            rw [Heap.size_push, hsz', z] at this
            exact Nat.lt_irrefl _ (Nat.lt_of_succ_lt this)
        · rcases List.mem_cons.mp (I3.stkSub b z) with z | z
          · exact (f2 b hb).2.1 z
          · exact (f2 b hb).2.2.1 z
        · have lt := (f3 b hb).2
          rcases List.mem_cons.mp (show q ∈ _ :: pinsAt Sp h'' from hq) with rfl | hq
          · have e : h'.objs.size = b := e
            rw [← e] at lt
            exact Nat.lt_irrefl _ (Nat.lt_of_lt_of_le lt ale)
          · have := (hlt _ (of_pinsAt hq).1).1
            rw [e] at this
            exact Nat.lt_irrefl _ (Nat.lt_of_lt_of_le lt this)
      refine ⟨J0, _, Array.getElem?_push_size .., fun s'' hJ => ⟨rfl, ?_⟩⟩
      have loop := turns Sp n 0 s'' s'' (Nat.sub_zero _) (Nat.zero_le _) (fun b hb => by
        obtain ⟨H3, qs, hqs, I6, _⟩ := hJ
        rw [← hqs] at hb
        obtain ⟨z, hz, rfl⟩ := List.mem_map.mp hb
        have y := (I6.pin z (List.mem_append_right _ (List.mem_cons_of_mem _ hz))).1
        exact ⟨z.2, y, y⟩) hJ
      show Seg _ _ _ _ _ s'' _ ((compStart (.GeneratorExp elt [⟨tg, iter, [], 0⟩] scope gpos) 0 (.ref it) .none (gnE X scope s3.heap.objs.size code)).onRaise (leaving (gnE X scope s3.heap.objs.size code))) [] s''
      unfold compStart; rw [Sem.onRaise_eq_wrap]
      refine seg_bind_wrap (m := ask) (wpAny_askSetting ?_)
      obtain ⟨_, _, _, I6, st6, _⟩ := id hJ
      split
      · exact seg_again rfl loop
      · exact seg_bind_wrap (wpAny_rule (seg_bind_wrap (wpAny_standAt (seg_bind_wrap (T.self _ 0 s'' _ _ st6 (seg_again rfl loop))))))
    · obtain ⟨H', qs, i, hi, hqs, I6, w⟩ := hF
      exact ⟨H', I3.call' (ch := fp) I6.os I6.base I6.hok I6.bare fun b hb => ⟨(f2 b hb).2.2.2.1, (f2 b hb).2.1, (f2 b hb).2.2.2.2.1, (f2 b hb).2.2.2.2.2⟩, i, hi, w⟩
  cases hf : codeAmong gpos ps.toList with
  | some cv => exact wpAny_genexprCode_hit hcode (cd.code hPs ht) hf (go cv s2.heap s2.toks ps (fun _ _ _ e => e) (Nat.le_refl _) hPs ht)
  | none =>
    refine wpAny_genexprCodeX hcode (cd.code hPs ht) (cd.tab hPs) hf fun c' h3 tk hx hge hlt hco' _ htab' _ => ?_
    obtain ⟨_, _, _, _, _, _, _, _, _, _, _, _, _, _, _, _, _, _, _, htr, _⟩ := hco'
    exact go _ h3 tk _ hx (Nat.le_trans hge (Nat.le_of_lt hlt)) htab'.2 htr
end
end LH

set_option Elab.async false
set_option linter.all false
set_option maxRecDepth 100000
set_option maxHeartbeats 4000000
namespace LH
open PySem PySem.Spec PyProof.Rows L2 Evl LT LG
section
variable {prog : Program} {w : World} {A : Around} {E : Value → Shared → Prop} {R : Result → Shared → Prop} {s : Shared} {a S : Addr} {n : Nat} {vals : Nat → V} {St : Nat → Shared → Prop} {Fin : Shared → Prop} {val : Nat → Int}
abbrev accO (us : Array Value) (c : Nat) : Obj := { cls := .type "list", dict := none, data := .seq us c, slots := #[] }
theorem same_at {s s' : Shared} {o : Obj} (h : Same [S] s s') (e : s.heap.get? S = some o) : s'.heap.get? S = some o := by
  obtain ⟨o', h1, h2⟩ := h S (List.mem_singleton.mpr rfl)
  rw [e] at h1
  cases h1
  exact h2
theorem upd_keeps {h : Heap} {f : Obj → Obj} : ∀ b o, b ∉ [S] → h.get? b = some o → (h.update S f).get? b = some o := fun b o hb e =>
  (Heap.get?_update_other _ _ fun z : S = b => hb (List.mem_singleton.mpr z.symm)).trans e
theorem sum_turns (W : WG prog w A.in1 a n vals [S] St Fin) (hv : ∀ i, vals i = .int (val i)) (hfit : ∀ j, j < n → InLong (val j) ∧ InLong (preSum val (j + 1))) : ∀ (k i : Nat) (s : Shared) (tA : Tok) (c : Nat), n - i = k → i ≤ n → St i s → s.heap.get? S = some (accO #[.int (preSum val i) tA] c) →
    (∀ s' t', Fin s' → R (.ok (.ret (.int (preSum val n) t'))) s') → codeAny (model prog w) A (.builtin "sum.loop" ⟨[.ref a, .ref S, rawInt 0, rawInt 0], []⟩) R s := by
  intro k
  induction k with
  | zero =>
    intro i s tA c hk hi st hS hR
    obtain rfl : i = n := by omega
    refine codeAny_builtin F.entry_sum_loop (by
      rw [Around.under_plainId F.plain_sum_loop _]
      show wpAny _ A.in1 (seqItems? (.ref S) >>= _) _ _ s
      refine wpAny_bind (wpAny_seqItems hS rfl (show wpAny _ A.in1 (tryCatch (pyNext (.ref a)) _ >>= _) _ _ s from ?_))
      exact wpAny_bind (wpAny_tryCatch (W.done s _ _ st fun s' hF _ => wpAny_pure (hR s' tA hF))))
  | succ k ih =>
    intro i s tA c hk hi st hS hR
    have hlt : i < n := by omega
    refine codeAny_builtin F.entry_sum_loop (by
      rw [Around.under_plainId F.plain_sum_loop _]
      show wpAny _ A.in1 (seqItems? (.ref S) >>= _) _ _ s
      refine wpAny_bind (wpAny_seqItems hS rfl (show wpAny _ A.in1 (tryCatch (pyNext (.ref a)) _ >>= _) _ _ s from ?_))
      refine wpAny_bind (wpAny_tryCatch (W.item i s _ _ hlt st fun v s' r st' sm => ?_))
      rw [hv i] at r
      obtain ⟨t, rfl⟩ := r
      have hS' := same_at sm hS
      obtain ⟨⟨f1, f2⟩, f3, f4⟩ := hfit i hlt
      have hc : ((decide (-(2 ^ 63) ≤ val i) && decide (val i < 2 ^ 63)) && (decide (-(2 ^ 63) ≤ preSum val i + val i) && decide (preSum val i + val i < 2 ^ 63))) = true := by
        simp only [preSum] at f3 f4
        simp only [Bool.and_eq_true, decide_eq_true_eq]
        exact ⟨⟨f1, f2⟩, f3, f4⟩
      show wpAny _ A.in1 (if (_ : Bool) = true then (mkInt (preSum val i + val i) >>= _) else _) _ _ _
      split
      · refine wpAny_bind (wpAny_mkInt (show wpAny _ A.in1 (updateSeq S (fun _ => #[.int (preSum val i + val i) s'.toks]) >>= _) _ _ _ from wpAny_bind ?_))
        refine wpAny_updateSeq hS' rfl (wpAny_pure ⟨plainId_quiet F.plain_sum_loop _, ih (i + 1) _ s'.toks _ (by omega) hlt (W.upd _ s' _ _ st' upd_keeps fun b hb => ?_) (Heap.get?_update_self _ hS' rfl) hR⟩)
        rw [List.mem_singleton.mp hb]
        exact ⟨_, Heap.get?_update_self _ hS' rfl, fun v z => nomatch z⟩
      · rename_i hneg
        exact absurd hc hneg)
/-- the greatest so far -/
def topI (val : Nat → Int) : Nat → Int
  | 0 => val 0
  | k + 1 => if val (k + 1) > topI val k then val (k + 1) else topI val k
theorem max_turns (W : WG prog w A.in1 a n vals [S] St Fin) (hv : ∀ i, vals i = .int (val i)) : ∀ (k j : Nat) (s : Shared) (t : Tok) (c : Nat), n - (j + 1) = k → j + 1 ≤ n → St (j + 1) s → s.heap.get? S = some (accO #[.int (topI val j) t, .int (topI val j) t] c) →
    (∀ s' t', Fin s' → R (.ok (.ret (.int (topI val (n - 1)) t'))) s') → codeAny (model prog w) A (.builtin "max.loop" ⟨[.ref a, .none, .ref S], []⟩) R s := by
  have hname : (toString "max" ++ toString ".loop" : String) = "max.loop" := by decide
  intro k
  induction k with
  | zero =>
    intro j s t c hk hj st hS hR
    have hin : j + 1 = n := by omega
    refine codeAny_builtin F.entry_max_loop (by
      rw [Around.under_plainId F.plain_max_loop _]
      show wpAny _ A.in1 (seqItems? (.ref S) >>= _) _ _ s
      refine wpAny_bind (wpAny_seqItems hS rfl (show wpAny _ A.in1 (tryCatch (pyNext (.ref a)) _ >>= _) _ _ s from ?_))
      refine wpAny_bind (wpAny_tryCatch (W.done s _ _ (hin ▸ st) fun s' hF sm => ?_))
      have hS' := same_at sm hS
      show wpAny _ A.in1 (updateSeq S (fun _ => #[]) >>= _) _ _ _
      refine wpAny_bind (wpAny_updateSeq hS' rfl (wpAny_bind (wpAny_letGo (wpAny_pure ?_))))
      have q := hR { s' with heap := s'.heap.update S (Obj.mapSeq fun _ => #[]) } t (W.finU s' _ s'.toks hF upd_keeps fun b hb => by
        rw [List.mem_singleton.mp hb]
        exact ⟨_, Heap.get?_update_self _ hS' rfl, fun v z => nomatch z⟩)
      rw [← hin] at q
      exact q)
  | succ k ih =>
    intro j s t c hk hj st hS hR
    have hlt : j + 1 < n := by omega
    refine codeAny_builtin F.entry_max_loop (by
      rw [Around.under_plainId F.plain_max_loop _]
      show wpAny _ A.in1 (seqItems? (.ref S) >>= _) _ _ s
      refine wpAny_bind (wpAny_seqItems hS rfl (show wpAny _ A.in1 (tryCatch (pyNext (.ref a)) _ >>= _) _ _ s from ?_))
      refine wpAny_bind (wpAny_tryCatch (W.item (j + 1) s _ _ hlt st fun v s' r st' sm => ?_))
      rw [hv (j + 1)] at r
      obtain ⟨t1, rfl⟩ := r
      have hS' := same_at sm hS
      show wpAny _ A.in1 (tryCatch (holding [Value.int (val (j + 1)) t1, Value.int (val (j + 1)) t1] (richCompare .Gt (Value.int (val (j + 1)) t1) (Value.int (topI val j) t) >>= _)) _ >>= _) _ _ _
      refine wpAny_bind (wpAny_tryCatch (wpAny_holding (wpAny_bind (gt_int (wpAny_bind (wpAny_holding (wpAny_truthy_bool (wpAny_bind (wpAny_letGo (wpAny_pure ?_))))))))))
      by_cases hb : val (j + 1) > topI val j
      · rw [decide_eq_true hb]
        simp only [if_true]
        refine wpAny_bind (wpAny_updateSeq hS' rfl (wpAny_bind (wpAny_letGo ?_)))
        rw [hname]
        refine wpAny_pure ⟨plainId_quiet F.plain_max_loop _, ih (j + 1) _ t1 _ (by omega) hlt (W.upd _ s' _ s'.toks st' upd_keeps fun b hb => ?_) (by
          have e : topI val (j + 1) = val (j + 1) := if_pos hb
          rw [e]
          exact Heap.get?_update_self _ hS' rfl) hR⟩
        rw [List.mem_singleton.mp hb]
        exact ⟨_, Heap.get?_update_self _ hS' rfl, fun v z => nomatch z⟩
      · rw [decide_eq_false hb]
        simp only [Bool.false_eq_true, if_false]
        refine wpAny_bind (wpAny_letGo ?_)
        rw [hname]
        refine wpAny_pure ⟨plainId_quiet F.plain_max_loop _, ih (j + 1) _ t c (by omega) hlt st' (by
          have e : topI val (j + 1) = topI val j := if_neg hb
          rw [e]
          exact hS') hR⟩)
end
end LH
namespace LH
open PySem PySem.Spec PyProof.Rows L2 Evl LT LG
section
variable {prog : Program} {w : World} {A : Around} {E : Value → Shared → Prop} {s : Shared} {a : Addr} {n : Nat} {vals : Nat → V} {val : Nat → Int} {Q : Value → Shared → Prop}
theorem call_sumG (hW : ∀ S, s.heap.objs.size ≤ S → ∃ (St : Nat → Shared → Prop) (Fin : Shared → Prop), WG prog w A.in1 a n vals [S] St Fin ∧ (∀ h' tk, (∀ b o, s.heap.get? b = some o → h'.get? b = some o) → (∃ o, h'.get? S = some o ∧ ∀ v, o.data ≠ .cell v) → St 0 { s with heap := h', toks := tk }) ∧ ∀ s' t', Fin s' → Q (.int (preSum val n) t') s')
    (hself : wpAny (model prog w) A.in1 (pyIter (.ref a)) (fun u s' => u = .ref a ∧ s' = s) E s) (hv : ∀ i, vals i = .int (val i)) (hfit : ∀ j, j < n → InLong (val j) ∧ InLong (preSum val (j + 1))) : wpAny (model prog w) A (call (.builtin "sum") [.ref a]) Q E s := by
  refine call_function_tree F.kind_sum F.plain_sum F.entry_sum (F.args_sum1 _) (by
    unfold Builtin.«sum»
    simp only [List.length_cons, List.length_nil]; rw [if_neg (by decide)]
    refine wpAny_bind (wpAny_of_eq (show Builtin.Builtins.bindParams "sum" ["start"] 0 { } = pure [none] from rfl) (wpAny_bind (wpAny_mono hself (fun u s' h => ?_) fun _ _ e => e)))
    obtain ⟨rfl, rfl⟩ := h
    refine wpAny_bind (wpAny_mkInt (wpAny_bind (wpAny_pure ?_)))
    simp only [List.forIn_cons, List.forIn_nil]
    refine wpAny_bind (wpAny_bind (wpAny_bind (wpAny_isInstance (T := "int") (b := false) (typeIs_int _ _ _) PySem.sub_int_str (by
      simp only [Bool.false_eq_true, if_false]
      refine wpAny_pure (wpAny_bind (wpAny_bind (wpAny_isInstance (T := "int") (b := false) (typeIs_int _ _ _) PySem.sub_int_bytes (by
        simp only [Bool.false_eq_true, if_false]
        refine wpAny_pure (wpAny_bind (wpAny_bind (wpAny_isInstance (T := "int") (b := false) (typeIs_int _ _ _) PySem.sub_int_bytearray (by
          simp only [Bool.false_eq_true, if_false]
          refine wpAny_pure (wpAny_pure (wpAny_bind (wpAny_newObj_type ?_)))
          obtain ⟨St, Fin, W, h0, hQ⟩ := hW s'.heap.objs.size (Nat.le_refl _)
          exact wpAny_pure ⟨plainId_quiet F.plain_sum_loop _, sum_turns W hv hfit n 0 _ s'.toks 0 rfl (Nat.zero_le _) (h0 _ _ (fun b o e => Heap.get?_push_of_some _ e) ⟨_, Heap.get?_push_size _ rfl, fun v z => nomatch z⟩) (Heap.get?_push_size _ rfl) hQ⟩)))))))))))))
theorem call_maxG (hW : ∀ S, s.heap.objs.size ≤ S → ∃ (St : Nat → Shared → Prop) (Fin : Shared → Prop), WG prog w A.in1 a n vals [S] St Fin ∧ (∀ h' tk, (∀ b o, s.heap.get? b = some o → h'.get? b = some o) → (∃ o, h'.get? S = some o ∧ ∀ v, o.data ≠ .cell v) → St 0 { s with heap := h', toks := tk }) ∧ ∀ s' t', Fin s' → Q (.int (topI val (n - 1)) t') s')
    (hself : wpAny (model prog w) A.in1 (pyIter (.ref a)) (fun u s' => u = .ref a ∧ s' = s) E s) (hv : ∀ i, vals i = .int (val i)) (hn : 0 < n) : wpAny (model prog w) A (call (.builtin "max") [.ref a]) Q E s := by
  have hname : (toString "max" ++ toString ".loop" : String) = "max.loop" := by decide
  refine call_function_tree F.kind_max F.plain_max F.entry_max (F.args_max1 _) (by
    show wpAny _ A.in1 (Builtin.Builtins.bindParams "max" ["key", "default"] 0 ⟨[], []⟩ >>= _) _ _ s
    refine wpAny_bind (wpAny_of_eq (show Builtin.Builtins.bindParams "max" ["key", "default"] 0 ⟨[], []⟩ = pure [none, none] from rfl) (wpAny_bind (wpAny_pure (wpAny_bind (wpAny_mono hself (fun u s' h => ?_) fun _ _ e => e)))))
    obtain ⟨rfl, rfl⟩ := h
    refine wpAny_bind (wpAny_newObj_type ?_)
    obtain ⟨St, Fin, W, h0, hQ⟩ := hW s'.heap.objs.size (Nat.le_refl _)
    rw [hname]
    generalize hS : s'.heap.objs.size = S at W h0 ⊢
    have hS0 : (s'.heap.push { cls := .type "list", dict := none, data := .seq #[] 0 }).get? S = some (accO #[] 0) := by rw [← hS]; exact Heap.get?_push_size _ rfl
    have st0 := h0 (s'.heap.push { cls := .type "list", dict := none, data := .seq #[] 0 }) s'.toks (fun b o e => Heap.get?_push_of_some _ e) ⟨_, hS0, fun v z => nomatch z⟩
    refine wpAny_pure ⟨plainId_quiet F.plain_max_loop _, codeAny_builtin F.entry_max_loop (by
      rw [Around.under_plainId F.plain_max_loop _]
      show wpAny _ A.in1 (seqItems? (.ref S) >>= _) _ _ _
      refine wpAny_bind (wpAny_seqItems hS0 rfl (show wpAny _ A.in1 (tryCatch (pyNext (.ref a)) _ >>= _) _ _ _ from ?_))
      refine wpAny_bind (wpAny_tryCatch (W.item 0 _ _ _ hn st0 fun v s2 r st' sm => ?_))
      rw [hv 0] at r
      obtain ⟨t1, rfl⟩ := r
      have hS' := same_at sm hS0
      show wpAny _ A.in1 (updateSeq S (fun _ => #[Value.int (val 0) t1, Value.int (val 0) t1]) >>= _) _ _ _
      refine wpAny_bind (wpAny_updateSeq hS' rfl ?_)
      rw [hname]
      refine wpAny_pure ⟨plainId_quiet F.plain_max_loop _, max_turns W hv _ 0 _ t1 _ rfl hn (W.upd _ s2 _ s2.toks st' upd_keeps fun b hb => ?_) (Heap.get?_update_self _ hS' rfl) hQ⟩
      rw [List.mem_singleton.mp hb]
      exact ⟨_, Heap.get?_update_self _ hS' rfl, fun v z => nomatch z⟩)⟩)
end
/-! ### the rules -/
def okAll (n : Nat) (vals : Nat → V) (r : V) : Prop := ∃ f : Nat → Bool, vals = (fun i => .bl (f i)) ∧ r = .bl (allF n f)
def okAny (n : Nat) (vals : Nat → V) (r : V) : Prop := ∃ f : Nat → Bool, vals = (fun i => .bl (f i)) ∧ r = .bl (anyF n f)
def okSum (n : Nat) (vals : Nat → V) (r : V) : Prop := ∃ f : Nat → Int, vals = (fun i => .int (f i)) ∧ r = .int (preSum f n) ∧ ∀ j, j < n → InLong (f j) ∧ InLong (preSum f (j + 1))
def okMax (n : Nat) (vals : Nat → V) (r : V) : Prop := ∃ f : Nat → Int, vals = (fun i => .int (f i)) ∧ r = .int (topI f (n - 1)) ∧ 0 < n
section
variable {X : Cx} {c P : Addr} {elt tg iter : Expr} {scope : Scope} {own : List (Str × Nat)} {p pos gpos : Pos} {wi : TI} {g : TG} {te : TE} {k : Nat}
theorem pe_gen {bn : Str} {b : String} {okc : Nat → (Nat → V) → V → Prop} (hbb : bootBuiltins bn = some (.builtin b)) (hcall : ∀ (pins : List (Addr × Obj)) (σ : L2.St) (n : Nat) (vals : Nat → V) (r : V) (QF : Hp → Prop) (a : Addr) (s5 : Shared), okc n vals r → RdyX X pins σ n vals QF a s5 → wpAny (model X.prog X.w) X.A (call (.builtin b) [.ref a]) (fun u s' => RelV r u ∧ ∃ H', Inv X pins σ H' s' ∧ QF H') X.xe s5)
    (hr : Room (k + 1) X.A) (hN : X.N.Nodup) (hgl : Gl X bn) (hm : X.mg bn = none) (TB : LamX.TabB X.base X.mg c P) (hcode : X.env.code = .ref c) (S : GenX X.env scope) (ok : BlkOk X.N X.env.scope scope own)
    (hi : PI X tg iter wi) (hs : ∀ v, genFold iter X.env v = pure v) (hg : ∀ (A' : Around) (s : Shared) (H : Hp) (C : Addr) (code : Value) (fp : List Addr), Room k A' → PG (gnb X A' s H (gnE X scope C code) fp) tg g) (he : ∀ (A' : Around) (s : Shared) (H : Hp) (C : Addr) (code : Value) (fp : List Addr), Room k A' → PE (gnb X A' s H (gnE X scope C code) fp) elt te)
    (hst : starEach [.GeneratorExp elt [⟨tg, iter, [], 0⟩] scope gpos] X.env = (false, eval (.GeneratorExp elt [⟨tg, iter, [], 0⟩] scope gpos) X.env) :: starEach [] X.env := by rfl) (hnm : bn ≠ "__name__" := by decide) (hdb : (bn == ("__debug__" : Str)) = false := by decide) :
    PE X (.Call (.Name bn p) [.GeneratorExp elt [⟨tg, iter, [], 0⟩] scope gpos] [] pos) (tGX P okc wi g te (own.map (·.2))) := by
  refine ⟨fun pins s σ H Q I h => wpAny_Call_Name_kw (ld_blt I hgl hm hbb (PyProof.Rows.callWith_builtin1 ?_ hst (by rfl)) hnm hdb)⟩
  rw [hst]
  show wpAny _ _ (spliced ((false, eval (.GeneratorExp elt [⟨tg, iter, [], 0⟩] scope gpos) X.env) :: backTo pos (starEach [] X.env))) _ _ s
  refine Calls.spliced_cons (gen_makeX hr hN TB hcode S ok hi hs hg he I h fun n vals r W a s5 hok fin rdy => Calls.spliced_nil (wpAny_mono (hcall pins σ n vals r _ a s5 hok rdy) (fun u s' ⟨r1, H', I', i, hi, w⟩ => ⟨r, H', I', r1, fin i H' hi w⟩) fun _ _ e => e))
theorem rdy0 {pins : List (Addr × Obj)} {σ : L2.St} {n : Nat} {vals : Nat → V} {QF : Hp → Prop} {a : Addr} {s5 : Shared} (R : RdyX X pins σ n vals QF a s5) : ∃ St Fin, WG X.prog X.w X.A.in1 a n vals [] St Fin ∧ St 0 s5 ∧ ∀ s', Fin s' → ∃ H', Inv X pins σ H' s' ∧ QF H' := by
  obtain ⟨St, Fin, h1, h2, h3⟩ := R
  exact ⟨St [], Fin [], h1 [] (fun b hb => nomatch hb), h2 [] s5.heap s5.toks (fun b hb => nomatch hb) (fun _ _ e => e) (fun b hb => nomatch hb), h3 []⟩
theorem call_all_rdy {pins : List (Addr × Obj)} {σ : L2.St} {n : Nat} {vals : Nat → V} {r : V} {QF : Hp → Prop} {a : Addr} {s5 : Shared} (ok : okAll n vals r) (R : RdyX X pins σ n vals QF a s5) : wpAny (model X.prog X.w) X.A (call (.builtin "all") [.ref a]) (fun u s' => RelV r u ∧ ∃ H', Inv X pins σ H' s' ∧ QF H') X.xe s5 := by
  obtain ⟨f, rfl, rfl⟩ := ok
  obtain ⟨St, Fin, W, st, hF⟩ := rdy0 R
  exact call_allG W (fun _ => rfl) st fun s' h => ⟨rfl, hF s' h⟩
theorem call_any_rdy {pins : List (Addr × Obj)} {σ : L2.St} {n : Nat} {vals : Nat → V} {r : V} {QF : Hp → Prop} {a : Addr} {s5 : Shared} (ok : okAny n vals r) (R : RdyX X pins σ n vals QF a s5) : wpAny (model X.prog X.w) X.A (call (.builtin "any") [.ref a]) (fun u s' => RelV r u ∧ ∃ H', Inv X pins σ H' s' ∧ QF H') X.xe s5 := by
  obtain ⟨f, rfl, rfl⟩ := ok
  obtain ⟨St, Fin, W, st, hF⟩ := rdy0 R
  exact call_anyG W (fun _ => rfl) st fun s' h => ⟨rfl, hF s' h⟩
theorem rdy1 {pins : List (Addr × Obj)} {σ : L2.St} {n : Nat} {vals : Nat → V} {QF : Hp → Prop} {a : Addr} {s5 : Shared} (R : RdyX X pins σ n vals QF a s5) (S : Addr) (hS : s5.heap.objs.size ≤ S) : ∃ (St : Nat → Shared → Prop) (Fin : Shared → Prop), WG X.prog X.w X.A.in1 a n vals [S] St Fin ∧ (∀ h' tk, (∀ b o, s5.heap.get? b = some o → h'.get? b = some o) → (∃ o, h'.get? S = some o ∧ ∀ v, o.data ≠ .cell v) → St 0 { s5 with heap := h', toks := tk }) ∧
    ∀ s', Fin s' → ∃ H', Inv X pins σ H' s' ∧ QF H' := by
  obtain ⟨St, Fin, h1, h2, h3⟩ := R
  have hSp : ∀ b ∈ [S], s5.heap.objs.size ≤ b := fun b hb => by rw [List.mem_singleton.mp hb]; exact hS
  exact ⟨St [S], Fin [S], h1 [S] hSp, fun h' tk k e => h2 [S] h' tk hSp k fun b hb => by rw [List.mem_singleton.mp hb]; exact e, h3 [S]⟩
theorem self_rdy {E : Value → Shared → Prop} {pins : List (Addr × Obj)} {σ : L2.St} {n : Nat} {vals : Nat → V} {QF : Hp → Prop} {a : Addr} {s5 : Shared} (R : RdyX X pins σ n vals QF a s5) : wpAny (model X.prog X.w) X.A.in1 (pyIter (.ref a)) (fun u s' => u = .ref a ∧ s' = s5) E s5 := by
  obtain ⟨St, Fin, W, st, hF⟩ := rdy0 R
  exact W.self 0 _ _ _ st ⟨rfl, rfl⟩
theorem call_sum_rdy {pins : List (Addr × Obj)} {σ : L2.St} {n : Nat} {vals : Nat → V} {r : V} {QF : Hp → Prop} {a : Addr} {s5 : Shared} (ok : okSum n vals r) (R : RdyX X pins σ n vals QF a s5) : wpAny (model X.prog X.w) X.A (call (.builtin "sum") [.ref a]) (fun u s' => RelV r u ∧ ∃ H', Inv X pins σ H' s' ∧ QF H') X.xe s5 := by
  obtain ⟨f, rfl, rfl, hfit⟩ := ok
  exact call_sumG (fun S hS => let ⟨S1, F1, W, h0, hF⟩ := rdy1 R S hS; ⟨S1, F1, W, h0, fun s' t' h => ⟨⟨t', rfl⟩, hF s' h⟩⟩) (self_rdy R) (fun _ => rfl) hfit
theorem call_max_rdy {pins : List (Addr × Obj)} {σ : L2.St} {n : Nat} {vals : Nat → V} {r : V} {QF : Hp → Prop} {a : Addr} {s5 : Shared} (ok : okMax n vals r) (R : RdyX X pins σ n vals QF a s5) : wpAny (model X.prog X.w) X.A (call (.builtin "max") [.ref a]) (fun u s' => RelV r u ∧ ∃ H', Inv X pins σ H' s' ∧ QF H') X.xe s5 := by
  obtain ⟨f, rfl, rfl, hn⟩ := ok
  exact call_maxG (fun S hS => let ⟨S1, F1, W, h0, hF⟩ := rdy1 R S hS; ⟨S1, F1, W, h0, fun s' t' h => ⟨⟨t', rfl⟩, hF s' h⟩⟩) (self_rdy R) (fun _ => rfl) hn
end
end LH

set_option Elab.async false
set_option linter.all false
set_option maxRecDepth 100000
set_option maxHeartbeats 4000000
namespace LO
open PySem PySem.Spec PyProof.Rows L2 L2H Evl LT LG LS LX
/-! ### own objects: fields, methods, items changed -/
theorem get_list {X : Cx} : PGet X (rIxL X.K) := by
  intro pins s σ H x y v u Q I rx ry h
  obtain ⟨p, xs, i, z, rfl, rfl, hq, he, q⟩ := h
  cases rx
  obtain ⟨t, rfl⟩ := ry
  obtain ⟨its, r, pl, hz⟩ := I.list hq
  obtain ⟨j, h1, h2, h3, h4, h5⟩ := atI_get he
  obtain ⟨w, ew, rw'⟩ := r.get h2
  have hl := r.length
  have hn := line63
  have fin : EP X pins σ Q w s := ⟨z, H, I, rw', q⟩
  by_cases h0 : 0 ≤ i
  · have hj : i.toNat = j := by
      rw [seqIndex_of h0 h5] at h1
      exact Option.some.inj h1
    exact wpAny_getItem_list (Q := fun r s' => EP X pins σ Q r s') pl.isList h0 (by omega) (by rw [hj]; simpa using ew) fin
  · have hj : (i + (its.toArray.size : Int)).toNat = j := by
      rw [seqIndex_neg (by omega) h4] at h1
      rw [List.size_toArray, ← hl]
      exact Option.some.inj h1
    exact wpAny_getItem_list_neg (Q := fun r s' => EP X pins σ Q r s') pl.isList (by omega) (by rw [List.size_toArray] <;> omega) (by omega) (by rw [hj]; simpa using ew) fin
/-- o.m(e, ..), what is raised wished for at the slots -/
def tMethA (C : Addr) (m : Str) (sp : Sp) (E : L2.St → XK) (ta : TE) (t : TA) : TE := fun σ H Q => ta σ H fun x H1 => ∃ a dx fs, x = .ref a ∧ H1 a = some (.ins C dx fs) ∧ fs.lookup m = none ∧ t σ H1 fun vs H2 => sp (x :: vs) H2 Q (E σ)
section
variable {X : Cx} {CX : CXT} {k : Nat} {f C : Addr} {fd : FuncData} {ps : List Str} {sp : Sp} {E : L2.St → XK} {m : Str} {pos apos : Pos} {e o : Expr} {es : List Expr} {ta : TE} {t : TA}
theorem pe_methA {pl : Sem Bool} (he : PE X o ta) (c : Cls X.K C) (hm : Meth X.K C m f) (F : FnOk X.prog X.w X.K X.mg X.base CX k f fd ps sp) (hr : Room k X.A) (hb : Binds X.K fd ps []) (hx : ∀ σ, PassesAt CX X σ (E σ)) (ha : PA X (e :: es) t)
    (hst : starEach (e :: es) X.env = (false, eval e X.env) :: starEach es X.env := by rfl) (hpl : (backTo pos (starEach es X.env)).any (·.1) = false := by rfl)
    (ht : eval (.Call (.Attribute o m apos) (e :: es) [] pos) X.env = (do
      let ov ← eval o X.env
      standAt apos.atName
      let (f, first) ← holding [ov] (getMethod ov m pl)
      callWith pos f first (backTo pos (starEach (e :: es) X.env)) (backToKw pos (keywordEach [] X.env))) := by rfl) :
    PE X (.Call (.Attribute o m apos) (e :: es) [] pos) (tMethA C m sp E ta t) := by
  refine ⟨fun pins s σ H Q I h => ?_⟩
  refine PySem.W.methodCall_KW (pl := pl) (thn (he.run pins s σ H _ I h) fun u s1 ⟨x, H1, I1, rx, a, dx, fs, ex, ea, l, q⟩ => ?_) ht
  subst ex
  obtain rfl : u = Value.ref a := rx
  refine getmeth_ok I1 ea c hm l ?_
  refine PySem.W.callWith_K (first := [.ref a]) (h₀ := X.base) I.ok.mod.kin hm.kp (thn (ha.run pos pins s1 σ H1 _ I1 q) fun us s2 ⟨vs, H2, I2, r, q2⟩ => ⟨I2.kIn, ?_⟩) hst hpl
  exact run_fnS (us := .ref a :: us) (vs := .ref a :: vs) F hr hb (hx σ) I2 (.cons rfl r) q2
theorem pe_methA0 {pl : Sem Bool} (he : PE X o ta) (c : Cls X.K C) (hm : Meth X.K C m f) (F : FnOk X.prog X.w X.K X.mg X.base CX k f fd ps sp) (hr : Room k X.A) (hb : Binds X.K fd ps []) (hx : ∀ σ, PassesAt CX X σ (E σ))
    (ht : eval (.Call (.Attribute o m apos) [] [] pos) X.env = (do
      let ov ← eval o X.env
      standAt apos.atName
      let (f, first) ← holding [ov] (getMethod ov m pl)
      callWith pos f first (backTo pos (starEach [] X.env)) (backToKw pos (keywordEach [] X.env))) := by rfl) :
    PE X (.Call (.Attribute o m apos) [] [] pos) (tMethA C m sp E ta tNil) := by
  refine ⟨fun pins s σ H Q I h => ?_⟩
  refine PySem.W.methodCall_KW (pl := pl) (thn (he.run pins s σ H _ I h) fun u s1 ⟨x, H1, I1, rx, a, dx, fs, ex, ea, l, q⟩ => ?_) ht
  subst ex
  obtain rfl : u = Value.ref a := rx
  refine getmeth_ok I1 ea c hm l ?_
  exact PySem.W.callWith_K0 (first := [.ref a]) I1.kIn hm.kp (run_fnS (us := [.ref a]) (vs := [.ref a]) F hr hb (hx σ) I1 (.cons rfl .nil) q)
end
/-! ### a def that is handed the caught exception, within the suite -/
structure FnE (P : Program) (w : World) (K : PySem.W.Frag) (mg : Str → Option Value) (base : Heap) (CX : CXT) (k : Nat) (f : Addr) (fd : FuncData) (ps : List Str) (sp : Addr → Addr → Sp) : Prop where
  len : ∀ D a vs H Q E, sp D a vs H Q E → vs.length = ps.length
  run : ∀ (A : Around) (outer : List Env) (s : Shared) (H : Hp) (args : Args) (us : List Value) (vs : List V) (Q : VK) (E : XK) (p : Addr × Obj) (D : Addr), RoomH k A → Zc (.ref D) none p.2 → (∃ vs, p.2.data = .fields vs) → PinOk outer H s p → Env0 P w K mg base A outer s H → BindsTo s fd args (ps.zip us) → Vals vs us → sp D p.1 vs H Q E →
    codeAny (model P w) A (.call (.ref f) args) (CR CX outer P w H s Q E) s
theorem fn_ofE {CX : CXT} {P : Program} {w : World} {K : PySem.W.Frag} {mg : Str → Option Value} {base : Heap} {k : Nat} {f : Addr} {name qual : Str} {params : Arguments} {body : List Stmt} {scope : Scope} {dV kV doc pm cdv ct oc : Value} {an od : Option Addr}
    {osl : Array (Option Value)} {N ps : List Str} {sp : Addr → Addr → Sp} (lk : K.lookup f = some ⟨oc, od, .func (PySem.W.fnOf name qual params body scope dV kV doc pm an cdv ct), osl⟩) (hcd : PySem.W.codeIn K cdv qual = true) (S : FnScope N ps scope)
    (len : ∀ D a vs H Q E, sp D a vs H Q E → vs.length = ps.length)
    (hbody : ∀ (A : Around) (outer : List Env) (s : Shared) (H : Hp) (vs : List V) (Q : VK) (E : XK) (p : Addr × Obj) (D : Addr), RoomH k (A.deeper (envOfC qual scope s.heap.objs.size f cdv)) → Zc (.ref D) none p.2 → (∃ vs, p.2.data = .fields vs) → sp D p.1 vs H Q E →
      ∃ t, PSs (cxH CX P w K mg base N qual scope f cdv A outer s H E p) body t ∧ t { nx := fun _ H' => Q .non H', rt := Q } (L2.start N vs) H) :
    FnE P w K mg base CX (k + 1) f (PySem.W.fnOf name qual params body scope dV kV doc pm an cdv ct) ps sp := by
  refine ⟨len, fun A outer s H args us vs Q E p D hr hz hf hpin e0 hb r hsp => ?_⟩
  have hl := len _ _ _ _ _ _ hsp
  have KX : K.In s.heap := e0.mod.kin.keeps fun b o e => (e0.bs b o e).1
  have lim : s.heap.NoLimit := e0.mod.nolimit.keeps fun b o e => (e0.bs b o e).1
  have hkind : ∀ y ∈ ps.zip us, scope.names.lookup y.1 = some .local ∨ (scope.names.lookup y.1 = some .cell ∧ ((cellsFrom (s.heap.objs.size + 1) scope.names []).lookup y.1).isSome = true) := fun ⟨n, v⟩ hy => by
    rcases S.par n (List.of_mem_zip hy).1 with q | q
    · exact .inl q
    · exact .inr ⟨q, PySem.W.cellsFrom_some _ _ _ (.inl q)⟩
  refine codeAny_call_function hr.depth (KX _ _ lk) rfl S.co S.gen rfl (PySem.W.codeRec_of KX hcd) (hb _ _ _ _ ?_)
  refine wpAny_newFunctionEnv_cells S.kind hkind fun env he s1 x => ?_
  subst he
  refine ⟨lim.keeps x.toInCall.keep, codeAny_func ?_⟩
  obtain ⟨t, ht, hq⟩ := hbody A outer s H vs Q E p D (hr.deeper _) hz hf hsp
  have I : Inv (cxH CX P w K mg base N qual scope f cdv A outer s H E p) [] (L2.start N vs) H s1 := inv_startH S hpin e0 hl r x
  refine wpAny_mono (ht.run [] s1 (L2.start N vs) H _ I hq) (fun fl s' hs => ?_) fun e s' hs => hs
  have fin : ∀ {σ' : L2.St} {H' : Hp} {v : V} {u : Value}, Inv (cxH CX P w K mg base N qual scope f cdv A outer s H E p) [] σ' H' s' → RelV v u → Q v H' → CE outer P w H s Q u s' :=
    fun {σ' H' v u} J rv q => ⟨v, H', J.os, J.bare, J.base, J.hok, rv, q⟩
  cases fl with
  | ret u =>
    obtain ⟨v, σ', H', J, rv, q⟩ := hs
    exact fin J rv q
  | next =>
    obtain ⟨σ', H', J, q⟩ := hs
    exact fin (v := V.non) (u := Value.none) J rfl q
  | brk =>
    obtain ⟨_, _, _, q⟩ := hs
    exact False.elim q
  | cont =>
    obtain ⟨_, _, _, q⟩ := hs
    exact False.elim q
section
variable {P : Program} {w : World} {K : PySem.W.Frag} {mg : Str → Option Value} {base : Heap}
theorem okE {x qual : Str} {st : Stmt} {f : Addr} {fd : FuncData} {N ps : List Str} {k : Nat} {sp : Addr → Addr → Sp} (F : Fun K x qual st f fd) (S : FnScope N ps (defScope st)) (len : ∀ D a vs H Q E, sp D a vs H Q E → vs.length = ps.length)
    (hbody : ∀ (cdv : Value) (A : Around) (outer : List Env) (s : Shared) (H : Hp) (vs : List V) (Q : VK) (E : XK) (p : Addr × Obj) (D : Addr), RoomH k (A.deeper (envOfC qual (defScope st) s.heap.objs.size f cdv)) → Zc (.ref D) none p.2 → (∃ vs, p.2.data = .fields vs) → sp D p.1 vs H Q E →
      ∃ t, PSs (cxH CX0 P w K mg base N qual (defScope st) f cdv A outer s H E p) (defBody st) t ∧ t { nx := fun _ H' => Q .non H', rt := Q } (L2.start N vs) H) : FnE P w K mg base CX0 (k + 1) f fd ps sp := by
  obtain ⟨oc, od, kV, doc, pm, an, cdv, ct, osl, rfl, lk, hcd⟩ := F.ex
  exact fn_ofE lk hcd S len fun A outer s H vs Q E p D hr hz hf hsp => hbody cdv A outer s H vs Q E p D hr hz hf hsp
end
def tCallE (sp : Addr → Addr → Sp) (cls : Value) (d : Option Addr) (a : Addr) (E : L2.St → XK) (t : TA) : TE := fun σ H Q => t σ H fun vs H1 => ∃ D, cls = .ref D ∧ d = none ∧ sp D a vs H1 Q (E σ)
section
variable {X : Cx} {CX : CXT} {k : Nat} {f : Addr} {fd : FuncData} {ps : List Str} {sp : Addr → Addr → Sp} {E : L2.St → XK} {x : Str} {q pos : Pos} {e : Expr} {es : List Expr} {t : TA} {a : Addr} {oe : Obj} {cls : Value} {d : Option Addr} {pn : List (Addr × Obj)}
theorem pass0E {X : Cx} {σ : L2.St} {E : XK} : PassesAt CX0 X σ E := fun _ _ _ _ _ _ h => h.elim
theorem pe_callE (hz : Zc cls d oe) (hf : ∃ vs, oe.data = .fields vs) (F : FnE X.prog X.w X.K X.mg X.base CX k f fd ps sp) (hr : Room k X.A) (hg : Gl (X.suite a ((a, oe) :: pn)) x) (hm : X.mg x = some (.ref f)) (hk : PySem.W.keepIn X.K (.ref f) = true) (hb : Binds X.K fd ps []) (hx : ∀ σ, PassesAt CX (X.suite a ((a, oe) :: pn)) σ (E σ))
    (ha : PA (X.suite a ((a, oe) :: pn)) (e :: es) t) (hdb : (x == ("__debug__" : Str)) = false := by decide) (he : starEach (e :: es) X.env = (false, eval e X.env) :: starEach es X.env := by rfl) (hpl : (backTo pos (starEach es X.env)).any (·.1) = false := by rfl) :
    PE (X.suite a ((a, oe) :: pn)) (.Call (.Name x q) (e :: es) [] pos) (tCallE sp cls d a E t) := by
  refine ⟨fun pins s σ H Q I h => ?_⟩
  refine wpAny_Call_Name_kw (ld_glob I hg hm ?_ hdb)
  refine PySem.W.callWith_K (h₀ := X.base) I.ok.mod.kin hk (thn (ha.run pos pins s σ H _ I h) fun us s1 ⟨vs, H1, I1, r, q⟩ => ⟨I1.kIn, ?_⟩) he hpl
  obtain ⟨D, rfl, rfl, q⟩ := q
  have hl : us.length = ps.length := by rw [← r.length]; exact F.len _ _ _ _ _ _ q
  have b := hb s1 us I1.kIn (by rw [List.append_nil]; exact hl)
  rw [List.append_nil] at b
  have P1 := I1.pin (a, oe) (List.mem_append_left _ List.mem_cons_self)
  have hpin : PinOk X.stack H1 s1 (a, oe) := ⟨P1.1, P1.2.1, fun hm => (List.mem_cons.mp (I1.stkSub a hm)).elim P1.2.2.1 P1.2.2.2.1, P1.2.2.2.2⟩
  refine wpAny_call (codeAny_mono (F.run _ X.stack s1 H1 ⟨us, []⟩ us vs Q (E σ) (a, oe) D ⟨hr.dp, hr.un⟩ hz hf hpin I1.env0 b r q) fun r s' hq => ?_)
  cases r with
  | error e => exact hx σ pins H1 s1 e s' I1 hq
  | ok fl =>
    cases fl with
    | ret u => exact I1.after hq
    | next => exact False.elim hq
    | brk => exact False.elim hq
    | cont => exact False.elim hq
end
/-- isinstance(e, c), e the exception that is handed in -/
def rIsP (K : PySem.W.Frag) (D a : Addr) : List V → Hp → VK → Prop := fun xs H Q => ExcC K D ∧ rIsE K D a xs H Q
theorem call_isP {X : Cx} {D : Addr} {p : Addr × Obj} (hp : p ∈ X.pn) (hz : Zc (.ref D) none p.2) (hf : ∃ vs, p.2.data = .fields vs) : CallR X (.builtin "isinstance") (rIsP X.K D p.1) := by
  intro pins s σ H xs us Q I r h
  obtain ⟨C, c, cv, b, rfl, hcv, e, q⟩ := h
  cases r with
  | cons rx rr =>
    cases rr with
    | cons rt rr =>
      cases rr
      cases rx
      have ec := hcv _ rt
      subst ec
      obtain ⟨hget, _⟩ := I.pin p (List.mem_append.mpr (.inl hp))
      obtain ⟨vs, hv⟩ := hf
      have J : PySem.W.InstAt s.heap p.1 p.2 D none := by
        obtain ⟨a, oc, od, oda, osl⟩ := p
        obtain ⟨h1, h2⟩ := hz
        dsimp only at h1 h2 hv hget ⊢
        subst h1 h2 hv
        exact ⟨hget, rfl, rfl, trivial⟩
      exact PySem.W.kia_one (PySem.W.handS_kitx_exc C.hg C.hk C.hs C.hd C.ha C.hn C.ht C.hm) I.kIn J e (fun z => nomatch z) fun tk => ⟨.bl b, H, I.kept (t' := tk) fun _ _ z => z, rfl, q⟩
theorem ev_isP {K : PySem.W.Frag} {D a C : Addr} {σ : L2.St} {H : Hp} {ta tb : TE} {b : Bool} (hC : ExcC K D) (h : Ev ta σ H (.ref a)) (hn : Ev tb σ H (.ref C)) (hk : PySem.W.kitOne K (.ref D) (.ref C) = some b) : Ev (tCB (rIsP K D a) (tCons ta (tCons tb tNil))) σ H (.bl b) :=
  ev_cb (ea_cons h (ea_cons hn ea_nil)) fun H1 e Q q => ⟨hC, .ref C, .ref C, b, rfl, fun u hu => hu, hk, q H1 (Ex.refl H1)⟩
/-- isinstance in the suite, the class open -/
def rIsQ (K : PySem.W.Frag) (a : Addr) (cls : Value) (d : Option Addr) : List V → Hp → VK → Prop := fun xs H Q => ∃ D, cls = .ref D ∧ d = none ∧ ExcC K D ∧ rIsE K D a xs H Q
theorem call_isQ {X : Cx} {a : Addr} {oe : Obj} {cls : Value} {d : Option Addr} {pn : List (Addr × Obj)} (hz : Zc cls d oe) (hf : ∃ vs, oe.data = .fields vs) : CallR (X.suite a ((a, oe) :: pn)) (.builtin "isinstance") (rIsQ X.K a cls d) := by
  intro pins s σ H xs us Q I r h
  obtain ⟨D, rfl, rfl, C, h⟩ := h
  exact call_isE C hz hf pins s σ H xs us Q I r h
theorem ev_isQ {K : PySem.W.Frag} {D a C : Addr} {σ : L2.St} {H : Hp} {ta tb : TE} {b : Bool} (hC : ExcC K D) (h : Ev ta σ H (.ref a)) (hn : Ev tb σ H (.ref C)) (hk : PySem.W.kitOne K (.ref D) (.ref C) = some b) : Ev (tCB (rIsQ K a (.ref D) none) (tCons ta (tCons tb tNil))) σ H (.bl b) :=
  ev_cb (ea_cons h (ea_cons hn ea_nil)) fun H1 e Q q => ⟨D, rfl, rfl, hC, .ref C, .ref C, b, rfl, fun u hu => hu, hk, q H1 (Ex.refl H1)⟩
theorem el_is {te : TE} {σ : L2.St} {H : Hp} {xs ys : List V} (h : EvL te σ H xs) (e : xs = ys) : EvL te σ H ys := by
  rw [← e]
  exact h
theorem rv_isN {H : Hp} {x : V} : RV (fun x y H Q => y = .non ∧ Q (.bl (decide (x = .non))) H) x .non H (.bl (decide (x = .non))) := rv_val fun _ _ Q q => ⟨rfl, q⟩
theorem rv_notN {H : Hp} {x : V} : RV (fun x y H Q => y = .non ∧ Q (.bl (!decide (x = .non))) H) x .non H (.bl (!decide (x = .non))) := rv_val fun _ _ Q q => ⟨rfl, q⟩
/-- a call, then a new instance by its __init__ -/
theorem q_make {C : Addr} {sp : Sp} {σ : L2.St} {H : Hp} {t : TA} {vs : List V} {E : XK} {i : Nat} {tz : TS} {D : Ends} (ht : EvA t σ H vs) (k : ∀ p dx H1 H2, H p = none → H1 p = none → Ex H H1 → H2 p = some (.ins C dx []) → Ex H1 H2 → sp (.ref p :: vs) H2 (fun v H3 => v = .non ∧ tz D (σ.set i (some (.ref p))) H3) E) : tSeq (tAsg (tMake C sp [] E t) (gName i)) tz D σ H :=
  ht H (Ex.refl _) _ fun H1 e1 p dx hp hd hne => by
    have h := k p dx H1 (upd (upd H1 dx (.own p)) p (.ins C dx [])) (fresh_back e1 hp) hp e1 upd_same ((Ex.new hd).mut hp)
    rw [show V.ref p :: (vs ++ []) = V.ref p :: vs by rw [List.append_nil]]
    exact h
/-- runs of a call -/
theorem q_run {sp : Sp} {σ : L2.St} {H : Hp} {tr : TA} {vs : List V} {E : XK} {tz : TS} {D : Ends} {i : Nat} (h : EvA tr σ H vs) (k : ∀ H1, Ex H H1 → sp vs H1 (fun v H2 => tz D (σ.set i (some v)) H2) E) : tSeq (tAsg (tCall sp [] E tr) (gName i)) tz D σ H := h H (Ex.refl H) _ fun H1 e => by
    rw [List.append_nil]
    exact k H1 e
/-! ### what fields and methods evaluate to -/
section
variable {K : PySem.W.Frag} {σ : L2.St} {H : Hp} {ta tb te : TE} {t : TA} {v z : V} {C p dx : Addr} {fs : List (Str × V)} {m : Str} {sp : Sp} {vs : List V} {tz : TS} {D : Ends}
theorem ev_fld (ha : Ev ta σ H (.ref p)) (hi : H p = some (.ins C dx fs)) (c : Cls K C) (n : NoAttr K C m) (hl : fs.lookup m = some v) : Ev (tFld K ta m) σ H v := fun H1 e Q q =>
  ha H1 e _ fun H2 e2 => ⟨p, C, dx, fs, v, rfl, e2 _ _ (e _ _ hi), c, n, hl, q H2 e2⟩
theorem ev_meth {E : XK} (ha : Ev ta σ H (.ref p)) (hi : H p = some (.ins C dx fs)) (hl : fs.lookup m = none) (ht : EvA t σ H vs) (hs : SpV sp (.ref p :: vs) H z) : Ev (tMeth C m sp [] E ta t) σ H z := fun H1 e Q q =>
  ha H1 e _ fun H2 e2 => ⟨p, dx, fs, rfl, e2 _ _ (e _ _ hi), hl, ht H2 (e.trans e2) _ fun H3 e3 => by
    rw [List.append_nil]
    exact hs H3 ((e.trans e2).trans e3) Q (fun H4 e4 => q H4 ((e2.trans e3).trans e4)) E⟩
theorem ev_meth0 {E : XK} (ha : Ev ta σ H (.ref p)) (hi : H p = some (.ins C dx fs)) (hl : fs.lookup m = none) (hs : SpV sp [.ref p] H z) : Ev (tMeth C m sp [] E ta tNil) σ H z := ev_meth ha hi hl ea_nil hs
/-- a method that changes something: its own promise, then the rest -/
theorem m_run {E : XK} {Q : VK} (ha : Ev ta σ H (.ref p)) (hi : H p = some (.ins C dx fs)) (hl : fs.lookup m = none) (ht : EvA t σ H vs) (k : ∀ H1, Ex H H1 → sp (.ref p :: vs) H1 Q E) : tMeth C m sp [] E ta t σ H Q :=
  ha H (Ex.refl _) _ fun H2 e2 => ⟨p, dx, fs, rfl, e2 _ _ hi, hl, ht H2 e2 _ fun H3 e3 => by
    rw [List.append_nil]
    exact k H3 (e2.trans e3)⟩
theorem mA_run {E : L2.St → XK} {Q : VK} (ha : Ev ta σ H (.ref p)) (hi : H p = some (.ins C dx fs)) (hl : fs.lookup m = none) (ht : EvA t σ H vs) (k : ∀ H1, Ex H H1 → sp (.ref p :: vs) H1 Q (E σ)) : tMethA C m sp E ta t σ H Q :=
  ha H (Ex.refl _) _ fun H2 e2 => ⟨p, dx, fs, rfl, e2 _ _ hi, hl, ht H2 e2 _ fun H3 e3 => k H3 (e2.trans e3)⟩
theorem q_m {E : XK} (ha : Ev ta σ H (.ref p)) (hi : H p = some (.ins C dx fs)) (hl : fs.lookup m = none) (ht : EvA t σ H vs) (k : ∀ H1, Ex H H1 → sp (.ref p :: vs) H1 (fun _ H2 => tz D σ H2) E) : tSeq (tDrop (tMeth C m sp [] E ta t)) tz D σ H := m_run (Q := fun _ H2 => tz D σ H2) ha hi hl ht k
theorem s_m {E : XK} (ha : Ev ta σ H (.ref p)) (hi : H p = some (.ins C dx fs)) (hl : fs.lookup m = none) (ht : EvA t σ H vs) (k : ∀ H1, Ex H H1 → sp (.ref p :: vs) H1 (fun _ H2 => D.nx σ H2) E) : tDrop (tMeth C m sp [] E ta t) D σ H := m_run (Q := fun _ H2 => D.nx σ H2) ha hi hl ht k
theorem r_m {E : XK} (ha : Ev ta σ H (.ref p)) (hi : H p = some (.ins C dx fs)) (hl : fs.lookup m = none) (ht : EvA t σ H vs) (k : ∀ H1, Ex H H1 → sp (.ref p :: vs) H1 D.rt E) : tRet (tMeth C m sp [] E ta t) D σ H := m_run (Q := D.rt) ha hi hl ht k
theorem q_mA {i : Nat} {E : XK} (ha : Ev ta σ H (.ref p)) (hi : H p = some (.ins C dx fs)) (hl : fs.lookup m = none) (ht : EvA t σ H vs) (k : ∀ H1, Ex H H1 → sp (.ref p :: vs) H1 (fun v H2 => tz D (σ.set i (some v)) H2) E) : tSeq (tAsg (tMeth C m sp [] E ta t) (gName i)) tz D σ H := m_run (Q := fun v H2 => tz D (σ.set i (some v)) H2) ha hi hl ht k
/-- the same in a try's body -/
theorem r_mA {E : L2.St → XK} (ha : Ev ta σ H (.ref p)) (hi : H p = some (.ins C dx fs)) (hl : fs.lookup m = none) (ht : EvA t σ H vs) (k : ∀ H1, Ex H H1 → sp (.ref p :: vs) H1 D.rt (E σ)) : tRet (tMethA C m sp E ta t) D σ H := mA_run (Q := D.rt) ha hi hl ht k
theorem q_mAD {E : L2.St → XK} (ha : Ev ta σ H (.ref p)) (hi : H p = some (.ins C dx fs)) (hl : fs.lookup m = none) (ht : EvA t σ H vs) (k : ∀ H1, Ex H H1 → sp (.ref p :: vs) H1 (fun _ H2 => tz D σ H2) (E σ)) : tSeq (tDrop (tMethA C m sp E ta t)) tz D σ H := mA_run (Q := fun _ H2 => tz D σ H2) ha hi hl ht k
theorem q_mAA {i : Nat} {E : L2.St → XK} (ha : Ev ta σ H (.ref p)) (hi : H p = some (.ins C dx fs)) (hl : fs.lookup m = none) (ht : EvA t σ H vs) (k : ∀ H1, Ex H H1 → sp (.ref p :: vs) H1 (fun v H2 => tz D (σ.set i (some v)) H2) (E σ)) : tSeq (tAsg (tMethA C m sp E ta t) (gName i)) tz D σ H := mA_run (Q := fun v H2 => tz D (σ.set i (some v)) H2) ha hi hl ht k
/-- o.f = e -/
theorem s_fld (hv : Ev te σ H v) (ha : Ev ta σ H (.ref p)) (hi : H p = some (.ins C dx fs)) (c : Cls K C) (n : NoAttr K C m) (hz : fs.length < 1000) (k : ∀ H1, Ex H H1 → D.nx σ (upd H1 p (.ins C dx (putF m v fs)))) : sFld K ta te m D σ H :=
  hv H (Ex.refl _) _ fun H1 e1 => ha H1 e1 _ fun H2 e2 => ⟨p, C, dx, fs, rfl, e2 _ _ (e1 _ _ hi), c, n, hz, k H2 (e1.trans e2)⟩
theorem s_fldL {xs : List V} (hv : EvL te σ H xs) (ha : Ev ta σ H (.ref p)) (hi : H p = some (.ins C dx fs)) (c : Cls K C) (n : NoAttr K C m) (hz : fs.length < 1000) (k : ∀ l H1, H l = none → Ex H H1 → H1 l = some (.lst xs) → D.nx σ (upd H1 p (.ins C dx (putF m (.ref l) fs)))) : sFld K ta te m D σ H :=
  hv H (Ex.refl _) _ fun l H1 hl e1 h1 => ha H1 e1 _ fun H2 e2 => ⟨p, C, dx, fs, rfl, e2 _ _ (e1 _ _ hi), c, n, hz, k l H2 hl (e1.trans e2) (e2 _ _ h1)⟩
theorem q_fld (hv : Ev te σ H v) (ha : Ev ta σ H (.ref p)) (hi : H p = some (.ins C dx fs)) (c : Cls K C) (n : NoAttr K C m) (hz : fs.length < 1000) (k : ∀ H1, Ex H H1 → tz D σ (upd H1 p (.ins C dx (putF m v fs)))) : tSeq (sFld K ta te m) tz D σ H := s_fld (D := { D with nx := tz D }) hv ha hi c n hz k
theorem q_fldL {xs : List V} (hv : EvL te σ H xs) (ha : Ev ta σ H (.ref p)) (hi : H p = some (.ins C dx fs)) (c : Cls K C) (n : NoAttr K C m) (hz : fs.length < 1000) (k : ∀ l H1, H l = none → Ex H H1 → H1 l = some (.lst xs) → tz D σ (upd H1 p (.ins C dx (putF m (.ref l) fs)))) : tSeq (sFld K ta te m) tz D σ H := s_fldL (D := { D with nx := tz D }) hv ha hi c n hz k
/-- xs[j] += e -/
theorem s_augL {f : Int → Int → Int} {l : Addr} {xs : List V} {j : Nat} {a b : Int} (ho : Ev ta σ H (.ref l)) (hi : Ev tb σ H (.int (j : Int))) (hl : H l = some (.lst xs)) (hj : xs[j]? = some (.int a)) (he : Ev te σ H (.int b)) (k : ∀ H1, Ex H H1 → D.nx σ (upd H1 l (.lst (xs.set j (.int (f a b)))))) :
    tAugS ta tb te (rIxL K) (ipI f) rSetL D σ H := ho H (Ex.refl _) _ fun H1 e1 => hi H1 e1 _ fun H2 e2 => ⟨l, xs, (j : Int), .int a, rfl, rfl, sq_of (e2 _ _ (e1 _ _ hl)), atI_nat hj, he H2 (e1.trans e2) _ fun H3 e3 => ⟨a, b, rfl, rfl, l, xs, (j : Int), j, rfl, rfl, e3 _ _ (e2 _ _ (e1 _ _ hl)), ixN_nat (List.getElem?_eq_some_iff.mp hj).1, k H3 ((e1.trans e2).trans e3)⟩⟩
theorem q_augL {f : Int → Int → Int} {l : Addr} {xs : List V} {j : Nat} {a b : Int} (ho : Ev ta σ H (.ref l)) (hi : Ev tb σ H (.int (j : Int))) (hl : H l = some (.lst xs)) (hj : xs[j]? = some (.int a)) (he : Ev te σ H (.int b)) (k : ∀ H1, Ex H H1 → tz D σ (upd H1 l (.lst (xs.set j (.int (f a b)))))) :
    tSeq (tAugS ta tb te (rIxL K) (ipI f) rSetL) tz D σ H := s_augL (D := { D with nx := tz D }) ho hi hl hj he k
end
/-! ### heaps in which the objects of S may change -/
def Fr (S : Addr → Prop) (H H' : Hp) : Prop := ∀ a o, H a = some o → ¬ S a → H' a = some o
theorem Fr.of {S : Addr → Prop} {H H' : Hp} (e : Ex H H') : Fr S H H' := fun a o h _ => e a o h
theorem Fr.trans {S : Addr → Prop} {H H1 H2 : Hp} (e : Fr S H H1) (f : Fr S H1 H2) : Fr S H H2 := fun a o h n => f a o (e a o h n) n
theorem Fr.mut {S : Addr → Prop} {H H' : Hp} {p : Addr} {o : HO} (e : Fr S H H') (h : S p) : Fr S H (upd H' p o) := fun a u ha n => by
  rw [upd_ne fun z => n (by rw [z]; exact h)]
  exact e a u ha n
theorem Fr.fresh {S : Addr → Prop} {H H' : Hp} {p : Addr} (e : Fr S H H') (h : H' p = none) (n : ¬ S p) : H p = none := by
  cases h1 : H p with
  | none => rfl
  | some o =>
    rw [e p o h1 n] at h
    cases h
/-- what H0 has stays, when what changes is none of it -/
theorem Fr.ex {S : Addr → Prop} {H0 H H' : Hp} (e : Ex H0 H) (f : Fr S H H') (n : ∀ a, S a → H0 a = none) : Ex H0 H' := fun a o h => f a o (e a o h) fun s => by
  rw [n a s] at h
  cases h
/-- what is read stands when an instance changes -/
theorem mut_l {K : PySem.W.Frag} {H H1 : Hp} {p C dx a : Addr} {fs fs' : List (Str × V)} {xs : List V} (e : Ex H H1) (hp : H p = some (.ins C dx fs)) (h : SqL K H a xs) : SqL K (upd H1 p (.ins C dx fs')) a xs := by
  rcases h with (h | ⟨o, h⟩) | h
  · exact .inl (.inl (by rw [upd_ne (ne_of h hp (by intro z; cases z))]; exact e _ _ h))
  · exact .inl (.inr ⟨o, by rw [upd_ne (ne_of h hp (by intro z; cases z))]; exact e _ _ h⟩)
  · exact .inr h
theorem mut_t {K : PySem.W.Frag} {H H1 : Hp} {p C dx a : Addr} {fs fs' : List (Str × V)} {xs : List V} (e : Ex H H1) (hp : H p = some (.ins C dx fs)) (h : SqT K H a xs) : SqT K (upd H1 p (.ins C dx fs')) a xs := by
  rcases h with (h | ⟨o, h⟩) | h
  · exact .inl (.inl (by rw [upd_ne (ne_of h hp (by intro z; cases z))]; exact e _ _ h))
  · exact .inl (.inr ⟨o, by rw [upd_ne (ne_of h hp (by intro z; cases z))]; exact e _ _ h⟩)
  · exact .inr h
/-- list(a tuple) -/
theorem el_listT {K : PySem.W.Frag} {σ : L2.St} {H : Hp} {ta : TE} {p : Addr} {xs : List V} (ha : Ev ta σ H (.ref p)) (h : SqT K H p xs) : EvL (tCB (rListS K) (tCons ta tNil)) σ H xs := fun H1 e Q q =>
  ha H1 e _ fun H2 e2 => ⟨p, xs, rfl, Or.inr (ex_t (e.trans e2) h), fun l hl => q l _ (fresh_back e2 hl) (e2.trans (Ex.new hl)) upd_same⟩
/-! ### comprehensions over two lists at once -/
theorem el_lcZ {K : PySem.W.Frag} {σ : L2.St} {H : Hp} {a b : Addr} {xs ys : List V} {t : TA} {tt : TT} {te : TE} {i j : Nat} {vs : List Nat} (f : Nat → Bool) (v : Nat → V) (h : EvA t σ H [.ref a, .ref b]) (hx : SqL K H a xs) (hy : SqL K H b ys) (hlen : xs.length = ys.length) (hz : xs.length ≤ 40000)
    (hw : ∀ x y, wipe (((wipe σ vs).set i (some x)).set j (some y)) vs = wipe σ vs)
    (ht : ∀ (n : Nat) (x y : V) H1, Ex H H1 → xs[n]? = some x → ys[n]? = some y → EvT tt (((wipe σ vs).set i (some x)).set j (some y)) H1 (f n)) (he : ∀ (n : Nat) (x y : V) H1, Ex H H1 → xs[n]? = some x → ys[n]? = some y → f n = true → Ev te (((wipe σ vs).set i (some x)).set j (some y)) H1 (v n)) :
    EvL (tLc (iZip K t) (gTup K 2 (gCons (gName i) (gCons (gName j) gNil))) tt te vs) σ H (given xs.length f v) := fun H0 e Q q => h H0 e _ fun H1 e1 => ⟨a, b, xs, ys, rfl, ex_l (e.trans e1) hx, ex_l (e.trans e1) hy, fun Dl hD =>
  lc_it (walk_zip (K := K) (a := a) (b := b) (xs := xs) (ys := ys) (n := xs.length) (by omega)) (Cw H1 f v Dl) ⟨hD, Ex.new hD, upd_same⟩ (fun i H' _ p => ⟨ex_l ((e.trans e1).trans p.2.1) hx, ex_l ((e.trans e1).trans p.2.1) hy⟩)
    (fun n z H2 H2' hn p y => by
      obtain ⟨T, x1, y1, rfl, hT, rfl, h1, h2⟩ := y
      have p' : Cw H1 f v Dl n (upd H2 T (.tup [x1, y1])) := ⟨p.1, p.2.1.trans (Ex.new hT), (Ex.new hT) _ _ p.2.2⟩
      have e2 := ((e.trans e1).trans p'.2.1)
      refine ⟨T, _, rfl, st_of upd_same, rfl, _, _, rfl, _, _, rfl, rfl, hw x1 y1, cw_turn (H := H1) p' (by omega) ?_ ?_⟩
      · exact ht n x1 y1 H1 (e.trans e1) h1 h2
      · exact fun hf => he n x1 y1 H1 (e.trans e1) h1 h2 hf)
    (fun H' p => q Dl H' (fresh_back e1 p.1) (e1.trans p.2.1) p.2.2)⟩
end LO

set_option Elab.async false
set_option linter.all false
set_option maxRecDepth 100000
set_option maxHeartbeats 4000000
namespace LN
open PySem PySem.Spec PyProof.Rows L2 Evl LT LG LS LQ
section
variable {X : Cx} {σ : L2.St} {H : Hp} {P : Addr} {scope : Scope} {x : Str} {u : Value} {a b c : Expr} {za zb zc z : V} {pos p : Pos}
theorem qv_ixL {l : Addr} {xs : List V} {i : Int} (hT : Tab H P) (hq : SqL X.K H l xs) (he : atI xs i = some z) (h0 : 0 ≤ i) (ha : QV X σ H P scope x u a (.ref l)) (hb : QV X σ H P scope x u b (.int i)) (hs : PlainIx b := by intro _ _; rfl) : QV X σ H P scope x u (.Subscript a b pos) z := fun cenv A' E' s m F =>
  Subscript_ (qv_two (f := fun v w => subscriptTail a b v w) ha hb (fun cenv A' E' s2 m2 v w F2 r1 r2 => by
    cases r1
    obtain ⟨t, rfl⟩ := r2
    obtain ⟨its, r, pl, hz⟩ := F2.list hT hq
    obtain ⟨j, h1, h2, h3, h4, h5⟩ := atI_get he
    obtain ⟨w', ew, rw'⟩ := r.get h2
    have hl := r.length
    have hn := line63
    have hj : i.toNat = j := by
      rw [seqIndex_of h0 h5] at h1
      exact Option.some.inj h1
    exact item_listR pl.isList h0 (by omega) (by rw [hj]; simpa using ew) ⟨rw', kp_refl _⟩ (hs _ _)) cenv A' E' s m F)
theorem qv_ixT {l : Addr} {xs : List V} {i : Int} (hT : Tab H P) (hq : SqT X.K H l xs) (he : atI xs i = some z) (ha : QV X σ H P scope x u a (.ref l)) (hb : QV X σ H P scope x u b (.int i)) (hs : PlainIx b := by intro _ _; rfl) : QV X σ H P scope x u (.Subscript a b pos) z := fun cenv A' E' s m F =>
  Subscript_ (qv_two (f := fun v w => subscriptTail a b v w) ha hb (fun cenv A' E' s2 m2 v w F2 r1 r2 => by
    cases r1
    obtain ⟨t, rfl⟩ := r2
    obtain ⟨its, r, pl, hz⟩ := F2.tuple hT hq
    obtain ⟨j, h1, h2, h3, h4, h5⟩ := atI_get he
    obtain ⟨w', ew, rw'⟩ := r.get h2
    have hl := r.length
    have hn := line63
    exact subscriptTail_builtinR (x := w') pl.typeIs slot_tuple_getitem.lookup
      (getItem_tuple (j := j) (Q := fun r s' => r = w' ∧ (RelV z r ∧ Keeps s2 s')) pl (by omega) (by omega) (by rw [List.size_toArray, ← hl]; exact h1) (by simpa using ew) ⟨rfl, rw', kp_refl _⟩) (hs _ _)) cenv A' E' s m F)
theorem qr_ltT {l r : Addr} {ns ms : List Int} (hT : Tab H P) (hu : X.A.units + 8 < cLine) (ha : SqT X.K H l (ns.map V.int)) (hb : SqT X.K H r (ms.map V.int)) : QR X σ H P scope x u (compareOp .Lt) (.ref l) (.ref r) (.bl (HT.lexLt ns ms)) := fun cenv A' E' s m v w F r1 r2 => by
  cases r1
  cases r2
  obtain ⟨its, r1, p1, _⟩ := F.tuple hT ha
  obtain ⟨its2, r2, p2, _⟩ := F.tuple hT hb
  have i1 : IntsAre its.toArray.toList ns := intsAre_of r1
  have i2 : IntsAre its2.toArray.toList ms := intsAre_of r2
  exact HT.lt_tupInts p1 p2 i1 i2 (Nat.lt_of_le_of_lt F.un hu) ⟨rfl, kp_refl _⟩
theorem qr_lt_int {i j : Int} : QR X σ H P scope x u (compareOp .Lt) (.int i) (.int j) (.bl (decide (i < j))) := fun cenv A' E' s m v w F r1 r2 => by
  obtain ⟨t, rfl⟩ := r1
  obtain ⟨t', rfl⟩ := r2
  exact lt_int ⟨rfl, kp_refl _⟩
theorem qv_chain {op op' : CmpOp} {f g : Bool} (hr : QR X σ H P scope x u (compareOp op) za zb (.bl f)) (hr' : QR X σ H P scope x u (compareOp op') zb zc (.bl g)) (ha : QV X σ H P scope x u a za) (hb : QV X σ H P scope x u b zb) (hc : QV X σ H P scope x u c zc)
    (hm : lastMarks [op, op'] [b, c] = false := by with_unfolding_all rfl) : QV X σ H P scope x u (.Compare a [op, op'] [b, c] pos) (.bl (f && g)) := fun cenv A' E' s m F => by
  refine Compare_chain (wpAny_mono (ha cenv A' E' s m F) (fun v s1 r1 => chain_link (wpAny_mono (hb cenv A' E' s1 m (F.keeps r1.2)) (fun w s2 r2 => wpAny_mono (hr cenv A' E' s2 m v w ((F.keeps r1.2).keeps r2.2) r1.1 r2.1) (fun d s3 r3 => ?_) fun _ _ e => e) fun _ _ e => e)) fun _ _ e => e) hm
  obtain ⟨rfl, k3⟩ := r3
  have k := kp_trans (kp_trans r1.2 r2.2) k3
  refine wpAny_truthy_bool ?_
  cases f with
  | false => exact ite_ff ⟨rfl, k⟩
  | true => exact ite_tt (chain_last (wpAny_mono (hc cenv A' E' s3 m (F.keeps k)) (fun y s4 r4 => wpAny_mono (hr' cenv A' E' s4 m w y ((F.keeps k).keeps r4.2) r2.1 r4.1) (fun e s5 r5 => ⟨r5.1, kp_trans (kp_trans k r4.2) r5.2⟩) fun _ _ e => e) fun _ _ e => e))
/-- an own def of one argument, a pair that it unpacks; it returns one test of each part -/
theorem qv_call2 {nm pn qual ya yb : Str} {st : Stmt} {f : Addr} {fd : FuncData} {N : List Str} {e1 e2 : Expr} {py1 py2 tp np ap bp rp : Pos} {kt k : Nat} {t : Addr} {v1 v2 : V} {c1 c2 : Bool} (hr : Room k X.A) (hT : Tab H P) (hk : scope.kind = .function) (hl : scope.names.lookup nm = some .globalImplicit) (hm : X.mg nm = some (.ref f)) (F : Fun X.K nm qual st f fd)
    (hbody : defBody st = [.Assign [.Tuple [.Name ya py1, .Name yb py2] kt tp] (.Name pn np) ap, .Return (some (.BoolOp .And [e1, e2] bp)) rp]) (S : FnScope N [pn] (defScope st)) (hloc : (defScope st).names.lookup pn = some .local) (hla : (defScope st).names.lookup ya = some .local) (hlb : (defScope st).names.lookup yb = some .local) (hab : ya ≠ yb)
    (hb : Binds X.K fd [pn] []) (ha : QV X σ H P scope x u a (.ref t)) (ht : SqT X.K H t [v1, v2])
    (h1 : ∀ (A0 : Around) (v : Value), RelV v1 v → QV { X with A := A0 } σ H P (defScope st) ya v e1 (.bl c1)) (h2 : ∀ (A0 : Around) (v : Value), RelV v2 v → QV { X with A := A0 } σ H P (defScope st) yb v e2 (.bl c2))
    (hs : ∀ env, starEach [a] env = (false, eval a env) :: starEach [] env := by intro _; rfl) (hd : (nm == ("__debug__" : Str)) = false := by decide) (hdp : (pn == ("__debug__" : Str)) = false := by decide) :
    QV X σ H P scope x u (.Call (.Name nm p) [a] [] pos) (.bl (c1 && c2)) := fun cenv A' E' s m Fc0 => by
  refine wpAny_Call_Name_kw (Calls.Name_function_global (by rw [Fc0.sc]; exact hk) (show cenv.scope.names.lookup nm = some .globalImplicit by rw [Fc0.sc]; exact hl) (Calls.loadGlobal_global (by rw [Fc0.gl]; exact Fc0.md.glob.keeps Fc0.base) hm ?_) hd)
  refine PySem.W.callWith_K (h₀ := X.base) Fc0.md.kin F.kp ?_ (hs cenv) (by rfl)
  rw [hs cenv]
  show wpAny _ _ (spliced ((false, eval a cenv) :: [])) _ _ s
  refine Calls.spliced_cons (wpAny_mono (ha cenv A' E' s m Fc0) (fun v s1 r1 => Calls.spliced_nil ?_) fun _ _ e => e)
  have F1 := Fc0.keeps r1.2
  refine ⟨F1.kin, ?_⟩
  obtain ⟨oc, od, kV, doc, pm, an, cdv, ct, osl, rfl, lk, hcd⟩ := F.ex
  have rv := r1.1
  refine wpAny_call (Att.call_fn (binds := [(pn, v)]) F1.kin (F1.md.nolimit.keeps F1.base) lk hcd (by have := hr.dp; have := Fc0.dp; omega) (hb s1 [v] F1.kin rfl) ?_ (fun s2 IC => ?_) S.co S.gen S.kind)
  · simp only [List.all_cons, List.all_nil, Bool.and_true, Bool.or_eq_true, beq_iff_eq]
    exact .inl hloc
  · obtain ⟨h2', tk2, rfl⟩ := IC.toInCall.same
    have kk : ∀ b o, s1.heap.get? b = some o → h2'.get? b = some o := IC.toInCall.keep
    rw [hbody]
    have Fn : Fc { X with A := A' } σ H P (defScope st) pn v (envOfC qual (defScope st) s1.heap.objs.size f cdv) (A'.deeper (envOfC qual (defScope st) s1.heap.objs.size f cdv)) { s1 with heap := h2', toks := tk2 } _ :=
      ⟨Fc0.hd, Nat.le_refl _, by show A'.units + 3 ≤ A'.units + 8; omega, rfl, rfl, rfl, IC.toInCall.ns, by
        show bindL _ [(pn, v)] _ pn = some v
        unfold bindL
        have hkd : (envOfC qual (defScope st) s1.heap.objs.size f cdv).kindOf pn = some .local := hloc
        rw [hkd]
        simp [bindL], fun b o e => kk b o (F1.base b o e), F1.md, F1.hok.kept kk, fun i y w h1 h2 h3 h4 => absurd rfl (S.nofree (y, .free) (lookup_mem' h4))⟩
    cases rv
    obtain ⟨its, ri, tup, _⟩ := Fn.tuple hT ht
    cases ri with
    | cons ra rr =>
      rename_i w1 wr
      cases rr with
      | cons rb rn =>
        rename_i w2 wn
        cases rn
        refine wpAny_execs_cons (Assign_Tuple (wpAny_mono (qv_x (X := { X with A := A' }) S.kind hloc (show RelV (.ref t) (.ref t) from rfl) hdp _ _ _ _ _ Fn) (fun y s3 r3 => ?_) fun _ _ e => e))
        obtain ⟨ry, h3, tk3, rfl, k3⟩ := r3
        cases ry
        refine assign_Tuple_tuple Fn.hd (tup.keeps k3) (by rfl) (by rfl) fun h4 hx4 => ?_
        have kL : ∀ b o, s1.heap.get? b = some o → b ≠ s1.heap.objs.size := fun b o e => Nat.ne_of_lt (Heap.lt_size e)
        have kx : ∀ b o, h3.get? b = some o → h4.get? b = some o := fun b o e => hx4 b o (Nat.ne_of_lt (Heap.lt_size e)) e
        have n4 := ((Fn.keeps ⟨h3, tk3, rfl, k3⟩).keeps (s₃ := { s1 with heap := h4, toks := tk3 }) ⟨h4, tk3, rfl, kx⟩).ns
        refine assignInOrder_cons (assign_Name (wpAny_storeName_local hla n4 (fun h5 n5 b5 => ?_) (by simp [envOfC, S.kind])))
        refine assignInOrder_cons (assign_Name (wpAny_storeName_local hlb n5 (fun h6 n6 b6 => ?_) (by simp [envOfC, S.kind])))
        refine assignInOrder_nil ?_
        have k6 : ∀ b o, s1.heap.get? b = some o → h6.get? b = some o := fun b o e => b6.extBut b o (kL b o e) (b5.extBut b o (kL b o e) (kx b o (k3 b o (kk b o e))))
        have FF : ∀ (y : Str) (w : Value), (if y = yb then some w2 else if y = ya then some w1 else none) = some w → Fc { X with A := A' } σ H P (defScope st) y w (envOfC qual (defScope st) s1.heap.objs.size f cdv) (A'.deeper (envOfC qual (defScope st) s1.heap.objs.size f cdv)) { s1 with heap := h6, toks := tk3 + 1 + 1 } _ := fun y w e => by
          refine ⟨Fc0.hd, Nat.le_refl _, (by show A'.units + 3 ≤ A'.units + 8; omega), rfl, rfl, rfl, n6, ?_, fun b o e => k6 b o (F1.base b o e), F1.md, F1.hok.kept k6, fun i y w h1 h2 h3 h4 => absurd rfl (S.nofree (y, .free) (lookup_mem' h4))⟩
          show (if y = yb then some w2 else if y = ya then some w1 else _) = some w
          by_cases q1 : y = yb
          · rw [if_pos q1] at e ⊢
            exact e
          · rw [if_neg q1] at e ⊢
            by_cases q2 : y = ya
            · rw [if_pos q2] at e ⊢
              exact e
            · rw [if_neg q2] at e
              cases e
        refine wpAny_execs_cons (wpAny_Return_some (BoolOp_and (wpAny_mono (h1 A' w1 ra _ _ _ _ _ (FF ya w1 (by rw [if_neg hab, if_pos rfl]))) (fun y s7 r7 => ?_) fun _ _ e => e)))
        obtain ⟨rfl, k7⟩ := r7
        refine wpAny_truthy_bool ?_
        have kA := kp_trans r1.2 (kp_trans (s1 := { s1 with heap := h6, toks := tk3 + 1 + 1 }) ⟨h6, _, rfl, k6⟩ k7)
        cases c1 with
        | true => exact BoolOp_one (wpAny_mono (h2 A' w2 rb _ _ _ _ _ ((FF yb w2 (if_pos rfl)).keeps k7)) (fun y s8 r8 => ⟨r8.1, kp_trans kA r8.2⟩) fun _ _ e => e)
        | false => exact ⟨rfl, kA⟩
end
/-! ### a list of pairs is walked -/
def SrcT (K : PySem.W.Frag) (H : Hp) (v : V) (n : Nat) (xs : Nat → V) : Prop := ∃ (a : Addr) (l : List V), v = .ref a ∧ SqL K H a l ∧ n = l.length ∧ ∀ i, i < n → ∃ (T : Addr) (y : V), l[i]? = some (.ref T) ∧ SqT K H T [y, xs i]
section
variable {X : Cx} {pins : List (Addr × Obj)} {σ : L2.St} {H : Hp} {s : Shared}
theorem src_iterT {v : V} {xv : Value} {n : Nat} {xs : Nat → V} {P : Addr} {Q : Value → Shared → Prop} {E : Value → Shared → Prop} (S : SrcT X.K H v n xs) (I : Inv X pins σ H s) (r : RelV v xv) (hT : Tab H P)
    (h : ∀ (o : Obj) (fp : List Addr) (Pf : Nat → Array Value → Prop) (St : Nat → Heap → Prop) (Mid : Nat → Addr → Heap → Prop), (∀ i va vb, Pf i #[va, vb] → i < n ∧ RelV (xs i) vb) → (∀ A' : Around, A'.handled = none → WalksU X.prog X.w A' s.heap.objs.size fp [s.heap.objs.size] n Pf St Mid) → (∀ i vals, Pf i vals → ∃ va vb, vals = #[va, vb]) →
      St 0 (s.heap.push o) → (∀ b ∈ fp, b ≤ s.heap.objs.size ∧ b ≠ P) → Q (.ref s.heap.objs.size) { s with heap := s.heap.push o }) : wpAny (model X.prog X.w) X.A (pyIter xv) Q E s := by
  have Plt : P < s.heap.objs.size := Heap.lt_size (hT.of_ok I.hok).choose_spec.1
  have szP : s.heap.objs.size ≠ P := fun z => Nat.lt_irrefl _ (z ▸ Plt : s.heap.objs.size < s.heap.objs.size)
  obtain ⟨a, l, rfl, hl, rfl, hx⟩ := S
  cases r
  obtain ⟨its, rv, pl, _⟩ := I.list hl
  have hal : a < s.heap.objs.size := let ⟨_, e, _⟩ := pl.isList; Heap.lt_size e
  have naP : a ≠ P := fun e => by
    obtain ⟨ps, e1, _⟩ := hT.of_ok I.hok
    obtain ⟨o, n, e2, e3, _, e4⟩ := pl
    rw [e, e1] at e2
    cases e2
    cases e3
  have hne : a ≠ s.heap.objs.size := Nat.ne_of_lt hal
  have en : its.toArray.size = l.length := by rw [List.size_toArray]; exact rv.length.symm
  have ev : ∀ i : Nat, ∃ (T : Addr) (va vb : Value), i < l.length → its.toArray[i]? = some (.ref T) ∧ IsTup s.heap T #[va, vb] ∧ RelV (xs i) vb := fun i => by
    by_cases hi : i < l.length
    · obtain ⟨T, y, e1, e2⟩ := hx i hi
      obtain ⟨w, ew, rw'⟩ := rv.get e1
      cases rw'
      obtain ⟨js, rj, tj, _⟩ := I.tuple e2
      cases rj with
      | cons ra rr =>
        rename_i w1 wr
        cases rr with
        | cons rb rn =>
          rename_i w2 wn
          cases rn
          exact ⟨T, w1, w2, fun _ => ⟨by simpa using ew, tj, rb⟩⟩
    · exact ⟨0, .none, .none, fun h => absurd h hi⟩
  refine wpAny_pyIter_list pl.isList ?_
  let Ts : Nat → Addr := fun i => (ev i).choose
  let va : Nat → Value := fun i => (ev i).choose_spec.choose
  let vb : Nat → Value := fun i => (ev i).choose_spec.choose_spec.choose
  have sp : ∀ i, i < l.length → its.toArray[i]? = some (.ref (Ts i)) ∧ IsTup s.heap (Ts i) #[va i, vb i] ∧ RelV (xs i) (vb i) := fun i => (ev i).choose_spec.choose_spec.choose_spec
  have tlt : ∀ i, i < l.length → Ts i < s.heap.objs.size := fun i hi => (sp i hi).2.1.lt
  have tnP : ∀ i, i < l.length → Ts i ≠ P := fun i hi e => by
    obtain ⟨ps, e1, _⟩ := hT.of_ok I.hok
    obtain ⟨o, e2, e3, _⟩ := (sp i hi).2.1
    rw [e, e1] at e2
    cases e2
    cases e3
  refine h _ (s.heap.objs.size :: a :: (List.range its.toArray.size).map Ts) (fun j v => j < l.length ∧ v = #[va j, vb j]) (fun j h => h.IsListIter s.heap.objs.size a j ∧ h.IsList a its.toArray ∧ ∀ k, k < its.toArray.size → h.IsTuple (Ts k) #[va k, vb k]) (fun j T h => (j < its.toArray.size ∧ T = Ts j) ∧ h.IsListIter s.heap.objs.size a (j + 1) ∧ h.IsList a its.toArray ∧ ∀ k, k < its.toArray.size → h.IsTuple (Ts k) #[va k, vb k]) (fun i wa wb hp => ?_) (fun A' hA => ?_) (fun i vals hp => ⟨_, _, hp.2⟩) ⟨⟨_, Heap.get?_push_size _ rfl, rfl, rfl⟩, pl.isList.at fun o e => Heap.get?_push_of_some _ e, fun k hk => ?_⟩ fun b hb => ?_
  · obtain ⟨hi, e⟩ := hp
    have e2 : wb = vb i := (by simpa using congrArg Array.toList e : wa = va i ∧ wb = vb i).2
    rw [e2]
    exact ⟨hi, (sp i hi).2.2⟩
  · have W := WalksU.listOfTuples (prog := X.prog) (w := X.w) hA s.heap.objs.size a hne its.toArray Ts (fun i => #[va i, vb i]) (fun j hj => (sp j (by rw [← en]; exact hj)).1) (fun j hj => Nat.ne_of_lt (tlt j (by rw [← en]; exact hj)))
    rw [← en]
    exact ⟨W.sub, W.frame, fun i s Q E hi st hQ => W.item i s Q E hi st fun T vals h' tk hv => hQ T vals h' tk ⟨hi, hv⟩, W.go, W.apart, W.done, W.self⟩
  · exact Heap.IsTuple.at ((sp k (by rw [← en]; exact hk)).2.1) fun o e => Heap.get?_push_of_some _ e
  · rcases List.mem_cons.mp hb with e | hb
    · rw [e]
      exact ⟨Nat.le_refl _, szP⟩
    · rcases List.mem_cons.mp hb with e | hb
      · rw [e]
        exact ⟨Nat.le_of_lt hal, naP⟩
      · obtain ⟨i, hi, rfl⟩ := List.mem_map.mp hb
        have hi' : i < l.length := by rw [← en]; exact List.mem_range.mp hi
        exact ⟨Nat.le_of_lt (tlt i hi'), tnP i hi'⟩
theorem gen_makeT {c P : Addr} {elt iter : Expr} {xa x : Str} {pa px pt gpos : Pos} {kt : Nat} {scope : Scope} {te : TE} {k : Nat} {Q' : Value → Shared → Prop} {R : Nat → (Nat → Bool) → Hp → Prop}
    (hr : Room k X.A) (TB : LamX.TabB X.base X.mg c P) (hcode : X.env.code = .ref c) (S : GxR.GenS X.env scope x) (hxa : scope.names.lookup xa = some .local) (hab : xa ≠ x) (hi : PE X iter te) (hs : ∀ v, genFold iter X.env v = pure v) (I : Inv X pins σ H s)
    (h : te σ H fun v H1 => Tab H1 P ∧ ∃ (n : Nat) (xs : Nat → V) (f : Nat → Bool), SrcT X.K H1 v n xs ∧ (∀ i u, i < n → RelV (xs i) u → QV X σ H1 P scope x u elt (.bl (f i))) ∧ R n f H1)
    (hQ : ∀ n f H1 g s5, R n f H1 → RdyG X pins σ H1 n f g s5 → Q' (.ref g) s5) :
    wpAny (model X.prog X.w) X.A (eval (.GeneratorExp elt [⟨.Tuple [.Name xa pa, .Name x px] kt pt, iter, [], 0⟩] scope gpos) X.env) Q' X.xe s := by
  refine wpAny_GeneratorExp_walksQTD hr.hd S.co (closure_ok S.free) S.cell S.dot hxa S.loc hab S.kind hr.depth ?_ hs
  refine thn (hi.run pins s σ H _ I h) fun xv s1 ⟨v, H1, I1, r1, hT, n, xs, f, hsrc, hel, hR⟩ => ?_
  refine src_iterT hsrc I1 r1 hT fun o fp Pf St Mid hPf hW hsz2 hst hfp => ?_
  obtain ⟨ps, hPs, ht⟩ := hT.of_ok I1.hok
  have hPlt : P < s1.heap.objs.size := Heap.lt_size hPs
  have hP2 : (s1.heap.push o).get? P = some { cls := .none, data := .fields ps } := Heap.get?_push_of_some _ hPs
  have cd : PySem.W.CodeHd (s1.heap.push o) c P := TB.code.keeps fun b u e => Heap.get?_push_of_some _ (I1.bk b u e)
  have lim2 : (s1.heap.push o).NoLimit := I1.nolimit.push o
  have hcP : cStatics ≠ P := fun e => by
    obtain ⟨_, ⟨o', es, ep, ho, hd, _⟩, _⟩ := I1.nolimit
    rw [e, hPs] at ho
    cases ho
    cases hd
  have hcl : cStatics < s1.heap.objs.size := let ⟨_, hns, _⟩ := I1.nolimit; hns.lt
  have sz2 : (s1.heap.push o).objs.size = s1.heap.objs.size + 1 := Heap.size_push ..
  have nTb : ∀ b, H1 b = none → b ≠ P := fun b e z => by
    rw [z, hT] at e
    cases e
  -- what is left once the code object is known
  have go : ∀ (code : Value) (h3 : Heap) (tk : Nat) (ps' : Array Value), Heap.ExtBut P (s1.heap.push o) h3 → (s1.heap.push o).objs.size ≤ h3.objs.size → h3.get? P = some { cls := .none, data := .fields ps' } → TriplesOk ps'.toList →
      wpAny (model X.prog X.w) X.A (builtinsFor X.env.globals X.env.builtins) (fun bi s₄ => ∃ I fp wr n₀ Pg St₀ Mid pz F, Value.ref s1.heap.objs.size = .ref I ∧ (∀ A' : Around, A'.handled = none → WalksU X.prog X.w A' I fp wr n₀ Pg St₀ Mid) ∧ (∀ i vals, Pg i vals → ∃ va vb, vals = #[va, vb]) ∧ St₀ 0 s₄.heap ∧ (∀ b ∈ fp, b < s₄.heap.objs.size) ∧ s₄.heap.NoLimit ∧ cStatics ∉ wr ∧
          (∀ href : Heap, (∀ b o, s₄.heap.get? b = some o → href.get? b = some o) → QuietGenTD X.prog X.w (genEnv scope (cloFrom X.env.cells scope.names []) s₄.heap.objs.size code bi X.env) xa x [] elt (List.range s₄.heap.objs.size) wr Pg pz F href (X.A.depth + 1) (X.A.units + 8)) ∧
          (∀ a h₅ tk gs, gs.bare = true → s₄.heap.objs.size < a → h₅.objs.size = a + 1 → (∀ b o, s₄.heap.get? b = some o → h₅.get? b = some o) →
            WalksS X.prog X.w X.A.in4 a (a :: s₄.heap.objs.size :: List.range s₄.heap.objs.size) (s₄.heap.objs.size :: wr) (GenOnlyQ s₄.gens.size) (passing pz n₀ 0).length (fun j y => ∃ i, (passing pz n₀ 0)[j]? = some i ∧ F i y) (GenAt X.prog X.w X.A.in4 a s₄.gens.size s₄.heap.objs.size (List.range s₄.heap.objs.size) wr pz n₀ F) →
            GenAt X.prog X.w X.A.in4 a s₄.gens.size s₄.heap.objs.size (List.range s₄.heap.objs.size) wr pz n₀ F 0 { s₄ with gens := s₄.gens.push gs, toks := tk, heap := h₅ } →
            Q' (.ref a) { s₄ with gens := s₄.gens.push gs, toks := tk, heap := h₅ })) X.xe { s1 with heap := h3, toks := tk } := by
    intro code h3 tk ps' hx hsz hP3 ht3
    obtain ⟨bm, ob, e1, e2, e3, e4, e5, e6, e7, e8⟩ := TB.bm
    have keep3 : ∀ b u, b ≠ P → s1.heap.get? b = some u → h3.get? b = some u := fun b u hb e => hx b u hb (Heap.get?_push_of_some _ e)
    refine wpAny_builtinsFor (m := X.mg) (by rw [I1.ok.glob]; exact ((I1.mod.glob.keeps I1.bk).push o).extBut hx TB.gP) e1 e2 (keep3 _ _ e4 (I1.bk _ _ e5)) e6 e7 e8 ?_
    have hsz3 : s1.heap.objs.size < h3.objs.size := by omega
    refine ⟨s1.heap.objs.size, fp, [s1.heap.objs.size], n, Pf, St, Mid, fun _ => true, fun i y => y = .bool (f i), rfl, hW, hsz2, ?_, fun b hb => Nat.lt_of_le_of_lt (hfp b hb).1 hsz3, lim2.extBut hx hcP, ?_, ?_, ?_⟩
    · exact (hW X.A hr.hd).frame _ _ _ hst fun b hb u e => hx b u (hfp b hb).2 e
    · intro z
      rw [List.mem_singleton.mp z] at hcl
      exact Nat.lt_irrefl _ hcl
    · intro href hhref
      refine ⟨fun A' E' i va v s₂ m₂ hA hD hU hPv hn hma hm hk => ?_, fun A' E' i va v s₂ m₂ hA hD hU hPv hp hn hma hm hk => ?_⟩
      · simp only [List.forIn_nil]
        exact wpAny_pure ⟨rfl, kp_refl _⟩
      · have kept : ∀ b u, b ≠ P → s1.heap.get? b = some u → s₂.heap.get? b = some u := fun b u hb e => by
          have hlt := Heap.lt_size e
          refine hk b (List.mem_range.mpr ?_) (fun z => ?_) u (hhref b u (keep3 b u hb e))
          · show b < h3.objs.size
            exact Nat.lt_trans hlt hsz3
          · rw [List.mem_singleton.mp z] at hlt
            exact Nat.lt_irrefl _ hlt
        refine wpAny_mono (hel i v (hPf i va v hPv).1 (hPf i va v hPv).2 _ A' E' s₂ m₂ ⟨hA, hD, hU, rfl, I1.ok.glob, rfl, hn, hm, fun b u e => kept b u (nTb b (I1.bs b u e).2) (I1.bk b u e), I1.mod, fun b u e => ?_, fun j y w hN hσ hv hfr => ?_⟩) (fun y s3 r => ⟨r.1, r.2⟩) fun _ _ e => e
        · have hb : b ≠ P := fun z => by
            rw [z] at e
            unfold but at e
            rw [if_pos rfl] at e
            cases e
          rw [but_ne hb] at e
          refine (I1.hok b u e).stay (fun d w hd q => kept d w ?_ q) (fun d q => ?_) fun d ys q => ?_
          · rcases hd with z | z
            · rw [z]
              exact hb
            · intro e2
              rw [e2, hT] at z
              cases z
          · rw [but_ne fun e2 => by rw [e2, hT] at q; cases q]
            exact q
          · rw [but_ne fun e2 => by rw [e2, hT] at q; cases q]
            exact q
        · obtain ⟨m, hn1, hl⟩ := I1.loc
          obtain ⟨r, rv, l⟩ := hl j y w hN hσ (hv.elim (fun z => Or.inr (Or.inl z)) (fun z => Or.inr (Or.inr z)))
          rcases l with ⟨z, _⟩ | ⟨_, cc, hc, oc, he, hd⟩
          · rcases hv with z2 | z2
            · rw [z] at z2; cases z2
            · rw [z] at z2; cases z2
          · exact ⟨r, cc, rv, clo_lookup (lookup_mem' hfr) hc, oc, kept cc oc (nTb cc (I1.freeC y cc hc)) he, hd⟩
    · intro g h5 tk5 gs hgb hag hsz5 hk5 W5 hat
      simp only [GxR.passing_true, List.length_range] at W5
      refine hQ n f H1 g _ hR ⟨_, _, _, _, _, W5.in4_1, hat, fun j y sj Qj Ej hy hQj => ?_, fun s' hm => ?_⟩
      · obtain ⟨i, hij, rfl⟩ := hy
        obtain ⟨hj, ej⟩ := List.getElem?_eq_some_iff.mp hij
        rw [List.getElem_range] at ej
        subst ej
        exact wpAny_truthy_bool hQj
      · have nwr : ∀ b u, s1.heap.get? b = some u → b ∉ h3.objs.size :: [s1.heap.objs.size] := fun b u e hb => by
          have hl := Heap.lt_size e
          rcases List.mem_cons.mp hb with z | z
          · rw [z] at hl
            exact Nat.lt_irrefl _ (Nat.lt_trans hl hsz3)
          · rw [List.mem_singleton.mp z] at hl
            exact Nat.lt_irrefl _ hl
        exact inv_grown I1 hT (fun b u hb e => hm.heap b u (nwr b u e) (hk5 b u (keep3 b u hb e))) ⟨ps', hm.heap P _ (nwr P _ hPs) (hk5 P _ hP3), ht3⟩ hm.os (AllBare.movedS (I1.bare.push hgb) hm)
  refine ⟨lim2, ?_⟩
  cases hf : codeAmong gpos ps.toList with
  | some cv => exact wpAny_genexprCode_hit hcode (cd.code hP2 ht) hf (go cv (s1.heap.push o) s1.toks ps (Heap.ExtBut.refl _ _) (Nat.le_refl _) hP2 ht)
  | none =>
    refine wpAny_genexprCodeX hcode (cd.code hP2 ht) (cd.tab hP2) hf fun c' h' tk hx hge hlt hco' _ htab' _ => ?_
    obtain ⟨_, _, _, _, _, _, _, _, _, _, _, _, _, _, _, _, _, _, _, htr, _⟩ := hco'
    exact go _ h' tk _ hx (Nat.le_trans hge (Nat.le_of_lt hlt)) htab'.2 htr
def tGenT (X : Cx) (P : Addr) (scope : Scope) (x : Str) (elt : Expr) (fin : Nat → (Nat → Bool) → Bool) (te : TE) : TE := fun σ H Q => te σ H fun v H1 => Tab H1 P ∧ ∃ (n : Nat) (xs : Nat → V) (f : Nat → Bool), SrcT X.K H1 v n xs ∧ (∀ i u, i < n → RelV (xs i) u → QV X σ H1 P scope x u elt (.bl (f i))) ∧ Q (.bl (fin n f)) H1
theorem pe_allT {c P : Addr} {elt iter : Expr} {xa x : Str} {pa px pt p pos gpos : Pos} {kt : Nat} {scope : Scope} {te : TE} {k : Nat} (hr : Room k X.A) (hg : Gl X "all") (hm : X.mg "all" = none) (hb : bootBuiltins "all" = some (.builtin "all")) (TB : LamX.TabB X.base X.mg c P) (hcode : X.env.code = .ref c) (S : GxR.GenS X.env scope x) (hxa : scope.names.lookup xa = some .local) (hab : xa ≠ x)
    (hi : PE X iter te) (hs : ∀ v, genFold iter X.env v = pure v)
    (he : starEach [.GeneratorExp elt [⟨.Tuple [.Name xa pa, .Name x px] kt pt, iter, [], 0⟩] scope gpos] X.env = (false, eval (.GeneratorExp elt [⟨.Tuple [.Name xa pa, .Name x px] kt pt, iter, [], 0⟩] scope gpos) X.env) :: starEach [] X.env := by rfl) :
    PE X (.Call (.Name "all" p) [.GeneratorExp elt [⟨.Tuple [.Name xa pa, .Name x px] kt pt, iter, [], 0⟩] scope gpos] [] pos) (tGenT X P scope x elt allF te) := by
  refine ⟨fun pins s σ H Q I h => wpAny_Call_Name_kw (ld_blt I hg hm hb (PyProof.Rows.callWith_builtin1 ?_ he (by rfl)))⟩
  rw [he]
  show wpAny _ _ (spliced ((false, eval (.GeneratorExp elt [⟨.Tuple [.Name xa pa, .Name x px] kt pt, iter, [], 0⟩] scope gpos) X.env) :: backTo pos (starEach [] X.env))) _ _ s
  refine Calls.spliced_cons (gen_makeT (R := fun n f H1 => Q (.bl (allF n f)) H1) hr TB hcode S hxa hab hi hs I h fun n f H1 g s5 hR ⟨fp, wr, G, F, St₁, W, hst, htr, hI⟩ => Calls.spliced_nil ?_)
  exact call_all_walkS (W.self 0 _ _ _ hst ⟨g, fp, wr, G, _, F, St₁, _, rfl, W, hst, htr, fun s' hmv => ⟨.bl _, H1, hI s' hmv, rfl, hR⟩⟩)
end
section
variable {X : Cx}
theorem cr_range1 : CallR X (.type "range") (fun vs H Q => ∃ i, vs = [V.int i] ∧ ∀ p, H p = none → Q (.ref p) (upd H p (.rng 0 i))) := by
  intro pins s σ H vs us Q I r h
  obtain ⟨i, rfl, q⟩ := h
  cases r with
  | cons ri rn =>
    cases rn
    obtain ⟨t, rfl⟩ := ri
    refine call_range_1 ⟨.ref s.heap.objs.size, upd H s.heap.objs.size (.rng 0 i), I.laid (t' := _) (fun b o e => Heap.get?_push_of_some _ e) (Nat.le_refl _) ?_, rfl, q _ (I.hok.fresh (Nat.le_refl _))⟩
    exact ⟨_, _, _, Heap.get?_push_size _ rfl⟩
end
section
variable {K : PySem.W.Frag} {σ : L2.St} {H : Hp} {ta tb tc te : TE}
theorem ev_chain {f g : Int → Int → Bool} {i j k : Int} (ha : Ev ta σ H (.int i)) (hb : Ev tb σ H (.int j)) (hc : Ev tc σ H (.int k)) : Ev (tChain (rI0 fun i j => .bl (f i j)) (rI0 fun i j => .bl (g i j)) ta tb tc) σ H (.bl (f i j && g j k)) := fun H1 e Q q =>
  ha H1 e _ fun H2 e2 => hb H2 (e.trans e2) _ fun H3 e3 => ⟨i, j, rfl, rfl, f i j, rfl, by
    cases hf : f i j with
    | true =>
      rw [if_pos rfl]
      refine hc H3 ((e.trans e2).trans e3) _ fun H4 e4 => ⟨j, k, rfl, rfl, ?_⟩
      have := q H4 ((e2.trans e3).trans e4)
      rw [hf] at this
      exact this
    | false =>
      rw [if_neg Bool.false_ne_true]
      have := q H3 (e2.trans e3)
      rw [hf] at this
      exact this⟩
variable {X : Cx} {P : Addr} {scope : Scope} {x : Str} {elt : Expr} {fin : Nat → (Nat → Bool) → Bool}
/-- a generator expression over range(n) -/
theorem ev_genR {n : Int} {f : Nat → Bool} (h : Ev te σ H (.int n)) (hb : -(2 ^ 62) ≤ n ∧ n < 2 ^ 62) (hT : Tab H P) (he : ∀ H1, Ex H H1 → ∀ (i : Nat) u, (i : Int) < n → RelV (.int (i : Int)) u → QV X σ H1 P scope x u elt (.bl (f i))) :
    Ev (tGen X P scope x elt fin (tCB (fun vs H Q => ∃ i, vs = [V.int i] ∧ ∀ p, H p = none → Q (.ref p) (upd H p (.rng 0 i))) (tCons te tNil))) σ H (.bl (fin n.toNat f)) := fun H1 e Q q =>
  h H1 e _ fun H2 e2 => ⟨n, rfl, fun p hp => by
    have e3 := Ex.new (o := HO.rng 0 n) hp
    refine ⟨((hT.mono e).mono e2).mono e3, n.toNat, fun i => .int (0 + (i : Int)), f, .inr (.inr ⟨p, 0, n, rfl, upd_same, by rw [Int.sub_zero], by decide, by decide, hb.1, hb.2, fun i => rfl⟩), fun i u hi hu => he _ ((e.trans e2).trans e3) i u (by omega) (by have hu2 : RelV (.int (0 + (i : Int))) u := hu; rw [Int.zero_add] at hu2; exact hu2), q _ (e2.trans e3)⟩⟩
/-- a generator expression over a new list -/
theorem ev_genL {xs : List V} {f : Nat → Bool} (h : EvL te σ H xs) (hT : Tab H P) (he : ∀ H1, Ex H H1 → ∀ i u, i < xs.length → RelV (xs.getD i .non) u → QV X σ H1 P scope x u elt (.bl (f i))) :
    Ev (tGen X P scope x elt fin te) σ H (.bl (fin xs.length f)) := fun H1 e Q q =>
  h H1 e _ fun p H2 hp e2 h2 => ⟨hT.mono (e.trans e2), xs.length, fun i => xs.getD i .non, f, .inl ⟨p, xs, rfl, sq_of h2, rfl, fun i => rfl⟩, fun i u hi hu => he H2 (e.trans e2) i u hi hu, q H2 e2⟩
/-- over a list of pairs -/
theorem ev_genT {v : V} {n : Nat} {xs : Nat → V} {f : Nat → Bool} (h : Ev te σ H v) (hT : Tab H P) (hs : ∀ H1, Ex H H1 → SrcT X.K H1 v n xs) (he : ∀ H1, Ex H H1 → ∀ i u, i < n → RelV (xs i) u → QV X σ H1 P scope x u elt (.bl (f i))) :
    Ev (tGenT X P scope x elt fin te) σ H (.bl (fin n f)) := fun H1 e Q q => h H1 e _ fun H2 e2 => ⟨hT.mono (e.trans e2), n, xs, f, hs H2 (e.trans e2), he H2 (e.trans e2), q H2 e2⟩
/-- tuple(new list) -/
theorem eu_tupL {xs : List V} (h : EvL te σ H xs) : EvU (tCB (fun zs H Q => ∃ p ys, zs = [.ref p] ∧ ((SqL K H p ys ∧ ∀ l, H l = none → Q (.ref l) (upd H l (.tup ys))) ∨ (SqT K H p ys ∧ Q (.ref p) H))) (tCons te tNil)) σ H xs := fun H1 e Q q =>
  h H1 e _ fun p H2 hp e2 h2 => ⟨p, xs, rfl, .inl ⟨sq_of h2, fun l hl => q l _ (fresh_back e2 hl) (e2.trans (Ex.new hl)) upd_same⟩⟩
end
end LN

set_option Elab.async false
set_option linter.all false
set_option maxRecDepth 100000
set_option maxHeartbeats 4000000
namespace LP
open PySem PySem.Spec PyProof.Rows L2 Evl LT LG LS LX LO
/-! ### comprehensions whose elements are new objects: R i (those before) y heap -/
abbrev Rel := Nat → List V → V → Hp → Prop
def Mon (R : Rel) : Prop := ∀ i xs y H H', Ex H H' → R i xs y H → R i xs y H'
def EvR (te : TE) (σ : L2.St) (H : Hp) (n : Nat) (R : Rel) : Prop := ∀ H1, Ex H H1 → ∀ Q : VK, (∀ L xs H2, H1 L = none → Ex H1 H2 → H2 L = some (.lst xs) → xs.length = n → (∀ i y, xs[i]? = some y → R i (xs.take i) y H2) → Q (.ref L) H2) → te σ H1 Q
theorem but_ex {D : Addr} {H : Hp} : Ex (but D H) H := fun a o h => by
  unfold but at h
  split at h
  · cases h
  · exact h
theorem ex_but {D : Addr} {H H' : Hp} (e : Ex H H') : Ex (but D H) (but D H') := fun a o h => by
  unfold but at h ⊢
  split at h
  · cases h
  · rename_i n
    rw [if_neg n]
    exact e a o h
theorem but_upd {D : Addr} {H : Hp} {o : HO} : but D (upd H D o) = but D H := funext fun a => by
  unfold but
  split
  · rfl
  · rename_i n
    exact upd_ne n
/-- what is new later than D -/
theorem but_new {D l : Addr} {H2 H3 : Hp} {o : HO} (hD : H2 D ≠ none) (hl : H2 l = none) (h : H3 l = some o) : but D H3 l = some o := by
  rw [but_ne (fun e => hD (by rw [← e]; exact hl))]
  exact h
/-- what stood before D -/
theorem but_old {D l : Addr} {H H3 : Hp} {o : HO} (hD : H D = none) (h : H l = some o) (e : Ex H H3) : but D H3 l = some o := by
  rw [but_ne (fun z => by rw [z, hD] at h; cases h)]
  exact e _ _ h
def Cr (H : Hp) (R : Rel) (D : Addr) (i : Nat) (H' : Hp) : Prop := H D = none ∧ Ex H H' ∧ ∃ xs, H' D = some (.lst xs) ∧ xs.length = i ∧ ∀ j y, xs[j]? = some y → R j (xs.take j) y (but D H')
theorem cr_turn {H H' : Hp} {R : Rel} {D : Addr} {i : Nat} {te : TE} {σ2 : L2.St} (mon : Mon R) (p : Cr H R D i H') (hi : i < 50000)
    (he : H' D ≠ none → ∀ xs : List V, xs.length = i → (∀ j y, xs[j]? = some y → R j (xs.take j) y (but D H')) → ∀ Q : VK, (∀ y H3, Ex H' H3 → R i xs y (but D H3) → Q y H3) → te σ2 H' Q) :
    tYes σ2 H' fun b H3 => if b = true then te σ2 H3 fun y H4 => ∃ acc, H4 D = some (.lst acc) ∧ acc.length < sizeLine ∧ Cr H R D (i + 1) (upd H4 D (.lst (acc ++ [y]))) else Cr H R D (i + 1) H3 := by
  obtain ⟨p1, p2, xs, p3, p4, p5⟩ := p
  show te σ2 H' fun y H4 => ∃ acc, H4 D = some (.lst acc) ∧ acc.length < sizeLine ∧ Cr H R D (i + 1) (upd H4 D (.lst (acc ++ [y])))
  refine he (by rw [p3]; exact fun e => by cases e) xs p4 p5 _ fun y H4 e4 r => ⟨xs, e4 _ _ p3, sz_lt (by omega), p1, (p2.trans e4).mut p1, xs ++ [y], upd_same, by simp [p4], fun j z hz => ?_⟩
  rw [but_upd]
  by_cases hj : j < xs.length
  · rw [List.getElem?_append_left hj] at hz
    rw [List.take_append_of_le_length (Nat.le_of_lt hj)]
    exact mon _ _ _ _ _ (ex_but e4) (p5 j z hz)
  · have hj2 : j = xs.length := by
      have := (List.getElem?_eq_some_iff.mp hz).1
      simp at this
      omega
    subst hj2
    rw [List.getElem?_append_right (Nat.le_refl _), Nat.sub_self] at hz
    cases hz
    rw [List.take_left', ← p4] at *
    · rw [p4]; rw [p4] at r; exact r
    · rfl
section
variable {K : PySem.W.Frag} {σ : L2.St} {H : Hp} {R : Rel} {te tl : TE} {vs : List Nat} {j j2 : Nat}
theorem er_R1 {ta : TA} {n : Int} (h : EvA ta σ H [.int n]) (hn : 0 ≤ n ∧ n ≤ 40000) (hw : ∀ x, wipe ((wipe σ vs).set j (some x)) vs = wipe σ vs) (mon : Mon R)
    (he : ∀ (i : Nat) D H1, H D = none → Ex H H1 → H1 D ≠ none → (i : Int) < n → ∀ xs : List V, xs.length = i → (∀ j y, xs[j]? = some y → R j (xs.take j) y (but D H1)) → ∀ Q : VK, (∀ y H3, Ex H1 H3 → R i xs y (but D H3) → Q y H3) → te ((wipe σ vs).set j (some (.int (i : Int)))) H1 Q) :
    EvR (tLc (iRng1 ta) (gName j) tYes te vs) σ H n.toNat R := fun H0 e Q q => h H0 e _ fun H1 e1 => ⟨n, rfl, by omega, by omega, fun Dl hD =>
  lc_range (lo := 0) (n := n.toNat) (Cr H1 R Dl) ⟨hD, Ex.new hD, [], upd_same, rfl, fun j y hy => by simp at hy⟩ (fun i H' hi p => by
    have e0 : (0 : Int) + (i : Int) = (i : Int) := Int.zero_add _
    rw [e0]
    exact ⟨hw _, cr_turn mon p (by omega) (fun h1 xs h2 h3 => he i Dl H' (fresh_back (e.trans e1) hD) ((e.trans e1).trans p.2.1) h1 (by omega) xs h2 h3)⟩)
    (fun H' ⟨p1, p2, xs, p3, p4, p5⟩ => q Dl xs H' (fresh_back e1 p1) (e1.trans p2) p3 p4 fun i y hy => mon _ _ _ _ _ but_ex (p5 i y hy))⟩
theorem er_L {a : Addr} {ys : List V} (h : Ev tl σ H (.ref a)) (hx : SqL K H a ys) (hz : ys.length ≤ 40000) (hw : ∀ x, wipe ((wipe σ vs).set j (some x)) vs = wipe σ vs) (mon : Mon R)
    (he : ∀ (i : Nat) (x : V) D H1, H D = none → Ex H H1 → H1 D ≠ none → ys[i]? = some x → ∀ xs : List V, xs.length = i → (∀ j y, xs[j]? = some y → R j (xs.take j) y (but D H1)) → ∀ Q : VK, (∀ y H3, Ex H1 H3 → R i xs y (but D H3) → Q y H3) → te ((wipe σ vs).set j (some x)) H1 Q) :
    EvR (tLc (iList K tl) (gName j) tYes te vs) σ H ys.length R := fun H0 e Q q => h H0 e _ fun H1 e1 => ⟨a, rfl, ⟨ys, ex_l (e.trans e1) hx⟩, fun Dl hD =>
  lc_list (xs := ys) (Cr H1 R Dl) ⟨hD, Ex.new hD, [], upd_same, rfl, fun j y hy => by simp at hy⟩ (fun i H' _ p => ex_l ((e.trans e1).trans p.2.1) hx)
    (fun i x H' hi p => ⟨hw x, cr_turn mon p (by have := (List.getElem?_eq_some_iff.mp hi).1; omega) (fun h1 xs h2 h3 => he i x Dl H' (fresh_back (e.trans e1) hD) ((e.trans e1).trans p.2.1) h1 hi xs h2 h3)⟩)
    (fun H' ⟨p1, p2, xs, p3, p4, p5⟩ => q Dl xs H' (fresh_back e1 p1) (e1.trans p2) p3 p4 fun i y hy => mon _ _ _ _ _ but_ex (p5 i y hy))⟩
/-- over a list of pairs -/
theorem er_L2 {a : Addr} {ys : List V} (h : Ev tl σ H (.ref a)) (hx : SqL K H a ys) (hz : ys.length ≤ 40000) (hw : ∀ x y, wipe (((wipe σ vs).set j (some x)).set j2 (some y)) vs = wipe σ vs) (mon : Mon R)
    (he : ∀ (i : Nat) (x : V) D H1, H D = none → Ex H H1 → H1 D ≠ none → ys[i]? = some x → ∃ t u v, x = .ref t ∧ SqT K H1 t [u, v] ∧ ∀ xs : List V, xs.length = i → (∀ j y, xs[j]? = some y → R j (xs.take j) y (but D H1)) → ∀ Q : VK, (∀ y H3, Ex H1 H3 → R i xs y (but D H3) → Q y H3) → te (((wipe σ vs).set j (some u)).set j2 (some v)) H1 Q) :
    EvR (tLc (iList K tl) (gTup K 2 (gCons (gName j) (gCons (gName j2) gNil))) tYes te vs) σ H ys.length R := fun H0 e Q q => h H0 e _ fun H1 e1 => ⟨a, rfl, ⟨ys, ex_l (e.trans e1) hx⟩, fun Dl hD =>
  lc_list (xs := ys) (Cr H1 R Dl) ⟨hD, Ex.new hD, [], upd_same, rfl, fun j y hy => by simp at hy⟩ (fun i H' _ p => ex_l ((e.trans e1).trans p.2.1) hx)
    (fun i x H' hi p => by
      have h1 : H' Dl ≠ none := by
        obtain ⟨_, _, xs, p3, _⟩ := p
        rw [p3]
        exact fun e => by cases e
      obtain ⟨t, u, v, rfl, hT, k⟩ := he i x Dl H' (fresh_back (e.trans e1) hD) ((e.trans e1).trans p.2.1) h1 hi
      exact ⟨t, [u, v], rfl, hT, rfl, u, [v], rfl, v, [], rfl, rfl, hw u v, cr_turn mon p (by have := (List.getElem?_eq_some_iff.mp hi).1; omega) fun _ xs' h2 h3 => k xs' h2 h3⟩)
    (fun H' ⟨p1, p2, xs, p3, p4, p5⟩ => q Dl xs H' (fresh_back e1 p1) (e1.trans p2) p3 p4 fun i y hy => mon _ _ _ _ _ but_ex (p5 i y hy))⟩
end
/-! ### a list of known items, new or not -/
def EvF (te : TE) (σ : L2.St) (H : Hp) (xs : List V) : Prop := ∀ H1, Ex H H1 → ∀ Q : VK, (∀ p H2, Ex H1 H2 → H2 p = some (.lst xs) → Q (.ref p) H2) → te σ H1 Q
def fset (f : Nat → List Int) (s : Nat) (v : List Int) : Nat → List Int := fun x => if x = s then v else f x
def Z8 : List Int := [0, 0, 0, 0, 0, 0, 0, 0]
/-- a dict from sectors to lists of words -/
def Dz (H : Hp) (d : Addr) (n : Nat) (f : Nat → List Int) : Prop := ∃ kvs : List (Key × V), H d = some (.dK kvs) ∧ kvs.length ≤ n ∧ ∀ s : Nat, (valV kvs (.inl (s : Int)) = none ∧ f s = Z8) ∨ ∃ l, valV kvs (.inl (s : Int)) = some (.ref l) ∧ H l = some (.lst ((f s).map V.int))
theorem cut_lo (xs : List V) (n : Nat) : cutV xs none (some (n : Int)) = xs.take n := by
  unfold cutV
  rw [HT.sIx_none, HT.sIx_nat, List.drop_zero, Nat.sub_zero, List.take_eq_take_iff]
  omega
theorem cut_hi (xs : List V) (n : Nat) : cutV xs (some (n : Int)) none = xs.drop n := by
  unfold cutV
  rw [HT.sIx_none, HT.sIx_nat, List.take_of_length_le (by rw [List.length_drop]; omega)]
  by_cases h : n ≤ xs.length
  · rw [Nat.min_eq_left h]
  · rw [Nat.min_eq_right (by omega), List.drop_eq_nil_of_le (Nat.le_refl _), List.drop_eq_nil_of_le (by omega)]
section
variable {K : PySem.W.Frag} {σ : L2.St} {H H' : Hp} {ta tb te td tk tx : TE} {v : V} {xs ys : List V} {d : Addr} {n s : Nat} {f : Nat → List Int} {D : Ends} {tz : TS}
theorem el_f (h : EvL te σ H xs) : EvF te σ H xs := fun H1 e Q q => h H1 e Q fun p H2 _ e2 h2 => q p H2 e2 h2
theorem Dz.ex (D : Dz H d n f) (e : Ex H H') : Dz H' d n f := by
  obtain ⟨kvs, h, hl, hs⟩ := D
  exact ⟨kvs, e _ _ h, hl, fun s => (hs s).imp id fun ⟨l, a, b⟩ => ⟨l, a, e _ _ b⟩⟩
theorem Dz.le (D : Dz H d n f) {m : Nat} (h : n ≤ m) : Dz H d m f := by
  obtain ⟨kvs, h1, hl, hs⟩ := D
  exact ⟨kvs, h1, Nat.le_trans hl h, hs⟩
theorem ef_get (hd : Ev td σ H (.ref d)) (hD : Dz H d n f) (hk : Ev tk σ H (.int (s : Int))) (hx : EvL tx σ H (Z8.map V.int)) : EvF (tDGet2 td tk tx) σ H ((f s).map V.int) := fun H1 e Q q => by
  obtain ⟨kvs, h, _, hs⟩ := hD
  refine hd H1 e _ fun H2 e2 => ⟨d, rfl, .inl ⟨kvs, .inl (e2 _ _ (e _ _ h))⟩, hk H2 (e.trans e2) _ fun H3 e3 => hx H3 ((e.trans e2).trans e3) _ fun p H4 hp e4 h4 => ?_⟩
  have e14 := (e2.trans e3).trans e4
  rcases hs s with ⟨hn, hf⟩ | ⟨l, hv, hl⟩
  · refine ⟨none, ?_, ?_⟩
    · rw [← hn]
      exact DGet.k (k := Sum.inl (s : Int)) (e14 _ _ (e _ _ h))
    · rw [hf] at q
      exact q p H4 e14 h4
  · refine ⟨some (.ref l), ?_, q l H4 e14 (e14 _ _ (e _ _ hl))⟩
    rw [← hv]
    exact DGet.k (k := Sum.inl (s : Int)) (e14 _ _ (e _ _ h))
theorem q_asgF {i : Nat} (h : EvF te σ H xs) (k : ∀ p H1, Ex H H1 → H1 p = some (.lst xs) → tz D (σ.set i (some (.ref p))) H1) : tSeq (tAsg te (gName i)) tz D σ H := h H (Ex.refl H) _ fun p H1 e h1 => k p H1 e h1
/-- list(an evaluated list) -/
theorem el_listF (h : EvF te σ H xs) : EvL (tCB (rListS K) (tCons te tNil)) σ H xs := fun H1 e Q q =>
  h H1 e _ fun p H2 e2 h2 => ⟨p, xs, rfl, Or.inl (sq_of h2), fun l hl => q l _ (fresh_back e2 hl) (e2.trans (Ex.new hl)) upd_same⟩
theorem q_dcopy {i : Nat} (hd : Ev td σ H (.ref d)) (hD : Dz H d n f) (k : ∀ p H1, H p = none → Ex H H1 → Dz H1 p n f → tz D (σ.set i (some (.ref p))) H1) :
    tSeq (tAsg (tCB (fun xs H Q => ∃ (a : Addr) (kvs : List (Key × V)), xs = [.ref a] ∧ Rd H a (.dK kvs) ∧ ∀ p, H p = none → Q (.ref p) (upd H p (.dK kvs))) (tCons td tNil)) (gName i)) tz D σ H := by
  obtain ⟨kvs, h, hl, hs⟩ := hD
  refine hd H (Ex.refl H) _ fun H1 e1 => ⟨d, kvs, rfl, .inl (e1 _ _ h), fun p hp => k p _ (fresh_back e1 hp) (e1.trans (Ex.new hp)) ⟨kvs, upd_same, hl, fun s => (hs s).imp id fun ⟨l, a, b⟩ => ⟨l, a, (e1.trans (Ex.new hp)) _ _ b⟩⟩⟩
theorem s_dputL {zs : List Int} (hv : EvL te σ H (zs.map V.int)) (hd : Ev td σ H (.ref d)) (hk : Ev tk σ H (.int (s : Int))) (hD : Dz H d n f) (hn : n < 100000) (k : ∀ H1 o, Ex H H1 → Dz (upd H1 d o) d (n + 1) (fset f s zs) → D.nx σ (upd H1 d o)) : sDPut td tk te D σ H := by
  obtain ⟨kvs, h, hl, hs⟩ := hD
  refine hv H (Ex.refl H) _ fun l H1 hl1 e1 h1 => hd H1 e1 _ fun H2 e2 => hk H2 (e1.trans e2) _ fun H3 e3 => ?_
  have e13 := (e1.trans e2).trans e3
  have h3 := e13 _ _ h
  have l3 := e3 _ _ (e2 _ _ h1)
  have hld : l ≠ d := ne_of l3 h3 (by intro z; cases z)
  refine ⟨d, _, rfl, DPut.k (k := Sum.inl (s : Int)) h3 (sz_lt (by omega)), k H3 _ e13 ⟨_, upd_same, Nat.le_trans (length_putK _ _ _) (by omega), fun j => ?_⟩⟩
  rw [valV_put]
  by_cases hj : j = s
  · subst hj
    rw [if_pos rfl]
    refine .inr ⟨l, rfl, ?_⟩
    rw [upd_ne hld, l3]
    unfold fset
    rw [if_pos rfl]
  · rw [if_neg (fun z => hj (by cases z; rfl))]
    have ef : fset f s zs j = f j := if_neg hj
    rw [ef]
    refine (hs j).imp id fun ⟨m, a, b⟩ => ⟨m, a, ?_⟩
    have b3 := e13 _ _ b
    rw [upd_ne (ne_of b3 h3 (by intro z; cases z))]
    exact b3
theorem el_catL (ha : EvL ta σ H xs) (hb : EvL tb σ H ys) (hz : xs.length + ys.length ≤ 100000) : EvL (tOp rCat ta tb) σ H (xs ++ ys) := fun H1 e Q q =>
  ha H1 e _ fun a H2 ha2 e2 h2 => hb H2 (e.trans e2) _ fun b H3 hb3 e3 h3 => ⟨a, b, xs, ys, rfl, rfl, e3 _ _ h2, h3, sz_of hz, fun p hp => q p _ (fresh_back (e2.trans e3) hp) ((e2.trans e3).trans (Ex.new hp)) upd_same⟩
theorem el_cat {l : Addr} (ha : Ev ta σ H (.ref l)) (hl : H l = some (.lst xs)) (hb : EvL tb σ H ys) (hz : xs.length + ys.length ≤ 100000) : EvL (tOp rCat ta tb) σ H (xs ++ ys) := fun H1 e Q q =>
  ha H1 e _ fun H2 e2 => hb H2 (e.trans e2) _ fun b H3 hb3 e3 h3 => ⟨l, b, xs, ys, rfl, rfl, e3 _ _ (e2 _ _ (e _ _ hl)), h3, sz_of hz, fun p hp => q p _ (fresh_back (e2.trans e3) hp) ((e2.trans e3).trans (Ex.new hp)) upd_same⟩
theorem el_rep1 {z : Int} (ha : EvL ta σ H [v]) (hb : Ev tb σ H (.int z)) (h0 : 0 ≤ z) (h1 : z ≤ 100000) : EvL (tOp rRep ta tb) σ H (List.replicate z.toNat v) := fun H1 e Q q =>
  ha H1 e _ fun a H2 ha2 e2 h2 => hb H2 (e.trans e2) _ fun H3 e3 => ⟨a, z, [v], rfl, rfl, e3 _ _ h2, by omega, by omega, sz_of (by simp; omega), fun p hp => by
    have := q p (upd H3 p (.lst (List.replicate z.toNat [v]).flatten)) (fresh_back (e2.trans e3) hp) ((e2.trans e3).trans (Ex.new hp))
    rw [show (List.replicate z.toNat [v]).flatten = List.replicate z.toNat v by
      induction z.toNat with
      | zero => rfl
      | succ k ih => rw [List.replicate_succ, List.flatten_cons, ih]; rfl] at this ⊢
    exact this upd_same⟩
theorem ev_min2 {i j : Int} (ha : Ev ta σ H (.int i)) (hb : Ev tb σ H (.int j)) : Ev (tCB (fun xs H Q => ∃ i j, xs = [.int i, .int j] ∧ Q (.int (if j < i then j else i)) H) (tCons ta (tCons tb tNil))) σ H (.int (if j < i then j else i)) := ev_cb (ea_cons ha (ea_cons hb ea_nil)) fun H1 e Q q => ⟨i, j, rfl, q H1 (Ex.refl H1)⟩
theorem er_asg {i : Nat} {R : Rel} (h : EvR te σ H n R) (k : ∀ L xs H1, H L = none → Ex H H1 → H1 L = some (.lst xs) → xs.length = n → (∀ i y, xs[i]? = some y → R i (xs.take i) y H1) → tz D (σ.set i (some (.ref L))) H1) : tSeq (tAsg te (gName i)) tz D σ H := h H (Ex.refl H) _ k
theorem er_ret {R : Rel} (h : EvR te σ H n R) (k : ∀ L xs H1, H L = none → Ex H H1 → H1 L = some (.lst xs) → xs.length = n → (∀ i y, xs[i]? = some y → R i (xs.take i) y H1) → D.rt (.ref L) H1) : tRet te D σ H := h H (Ex.refl H) _ k
end
/-! ### more statements -/
section
variable {K : PySem.W.Frag} {σ : L2.St} {H : Hp} {ta tb te : TE} {t : TA} {xs ys : List V} {l C p dx : Addr} {fs : List (Str × V)} {m : Str} {n : Nat} {D : Ends} {tz : TS}
theorem s_setLL {j : Nat} (hl : H l = some (.lst xs)) (h : EvL te σ H ys) (ho : Ev ta σ H (.ref l)) (hi : Ev tb σ H (.int (j : Int))) (hj : j < xs.length) (k : ∀ q H1, H q = none → Ex H H1 → H1 q = some (.lst ys) → D.nx σ (upd H1 l (.lst (xs.set j (.ref q))))) :
    tAsg te (gSub ta tb rSetL) D σ H := h H (Ex.refl H) _ fun q H1 hq e1 h1 => ho H1 e1 _ fun H2 e2 => hi H2 (e1.trans e2) _ fun H3 e3 => ⟨l, xs, (j : Int), j, rfl, rfl, ((e1.trans e2).trans e3) l _ hl, ixN_nat hj, k q H3 hq ((e1.trans e2).trans e3) (e3 _ _ (e2 _ _ h1))⟩
theorem q_fldR {R : Rel} (hv : EvR te σ H n R) (ha : Ev ta σ H (.ref p)) (hi : H p = some (.ins C dx fs)) (c : Cls K C) (nA : NoAttr K C m) (hz : fs.length < 1000) (k : ∀ L xs H1 H2, H L = none → Ex H H1 → Ex H1 H2 → H2 L = some (.lst xs) → xs.length = n → (∀ i y, xs[i]? = some y → R i (xs.take i) y H1) → tz D σ (upd H2 p (.ins C dx (putF m (.ref L) fs)))) : tSeq (sFld K ta te m) tz D σ H :=
  hv H (Ex.refl _) _ fun L xs H1 hL e1 h1 hn hr => ha H1 e1 _ fun H2 e2 => ⟨p, C, dx, fs, rfl, e2 _ _ (e1 _ _ hi), c, nA, hz, k L xs H1 H2 hL e1 e2 (e2 _ _ h1) hn hr⟩
theorem q_forZ {a b : Addr} {g : TG} {tu : TS} (h : EvA t σ H [.ref a, .ref b]) (hx : SqL K H a xs) (hy : SqL K H b ys) (Pv : Nat → L2.St → Hp → Prop) (h0 : ∀ H1, Ex H H1 → Pv 0 σ H1) (hl : ∀ i σ' H', Pv i σ' H' → SqL K H' a xs ∧ SqL K H' b ys)
    (hs : ∀ i x y T σ' H', xs[i]? = some x → ys[i]? = some y → Pv i σ' H' → H' T = none → g (.ref T) σ' (upd H' T (.tup [x, y])) fun σ2 H2 => tu { D with nx := Pv (i + 1), ct := Pv (i + 1), bk := tz D } σ2 H2) (hd : ∀ σ' H', Pv (min xs.length ys.length) σ' H' → tz D σ' H') : tSeq (tFor (iZip K t) g tu) tz D σ H :=
  h H (Ex.refl H) _ fun H1 e => ⟨a, b, xs, ys, rfl, ex_l e hx, ex_l e hy, for_it (D := { D with nx := tz D }) (walk_zip rfl) Pv (h0 H1 e) (fun i σ' H' _ p => hl i σ' H' p) (fun i v σ' H' H2 hi p y => by
    obtain ⟨T, x, z, rfl, hT, rfl, h1, h2⟩ := y
    exact hs i x z T σ' H' h1 h2 p hT) hd⟩
end
theorem refs_of : ∀ {xs : List V}, (∀ y ∈ xs, ∃ a, y = V.ref a) → ∃ ks : List Addr, xs = ks.map V.ref
  | [], _ => ⟨[], rfl⟩
  | x :: r, h => by
    obtain ⟨a, rfl⟩ := h x List.mem_cons_self
    obtain ⟨ks, e⟩ := refs_of fun y hy => h y (List.mem_cons_of_mem _ hy)
    exact ⟨a :: ks, by rw [e]; rfl⟩
/-- a method that is passed a new list -/
theorem mR_run {sp : Sp} {σ : L2.St} {H : Hp} {ta te : TE} {C p dx : Addr} {fs : List (Str × V)} {m : Str} {xs : List V} {D : Ends} {E : XK} (ha : Ev ta σ H (.ref p)) (hi : H p = some (.ins C dx fs)) (hl : fs.lookup m = none) (ht : EvL te σ H xs) (k : ∀ c H1, H c = none → Ex H H1 → H1 c = some (.lst xs) → sp [.ref p, .ref c] H1 (fun _ H2 => D.nx σ H2) E) : tDrop (tMeth C m sp [] E ta (tCons te tNil)) D σ H :=
  ha H (Ex.refl _) _ fun H2 e2 => ⟨p, dx, fs, rfl, e2 _ _ hi, hl, ht H2 e2 _ fun c H3 hc e3 h3 => k c H3 (fresh_back e2 hc) (e2.trans e3) h3⟩
section
variable {K : PySem.W.Frag} {σ : L2.St} {H : Hp} {ta tb te t1 : TE} {t : TA} {v : V} {xs ys vs : List V} {C p dx a : Addr} {fs : List (Str × V)} {m : Str} {sp : Sp} {D : Ends} {tz : TS}
theorem ev_int1 {i : Int} (h : Ev te σ H (.int i)) : Ev (tCB (fun xs H Q => (∃ i, xs = [V.int i] ∧ Q (V.int i) H) ∨ ∃ k : Bool, xs = [V.bl k] ∧ Q (V.int (if k then 1 else 0)) H) (tCons te tNil)) σ H (.int i) := ev_cb (ea_cons h ea_nil) fun H1 _ Q q => .inl ⟨i, rfl, q _ (Ex.refl _)⟩
theorem ef_var (h : Ev te σ H (.ref a)) (ha : H a = some (.lst xs)) : EvF te σ H xs := fun H1 e Q q => h H1 e _ fun H2 e2 => q a H2 e2 (e2 _ _ (e _ _ ha))
theorem ef_is (h : EvF te σ H xs) (e : xs = ys) : EvF te σ H ys := e ▸ h
theorem el_meth {E : XK} (ha : Ev ta σ H (.ref p)) (hi : H p = some (.ins C dx fs)) (hl : fs.lookup m = none) (ht : EvA t σ H vs) (hs : SpL sp (.ref p :: vs) H xs) : EvL (tMeth C m sp [] E ta t) σ H xs := fun H1 e Q q =>
  ha H1 e _ fun H2 e2 => ⟨p, dx, fs, rfl, e2 _ _ (e _ _ hi), hl, ht H2 (e.trans e2) _ fun H3 e3 => by
    rw [List.append_nil]
    exact hs H3 ((e.trans e2).trans e3) Q (fun l H4 hl e4 h4 => q l H4 (fresh_back (e2.trans e3) hl) ((e2.trans e3).trans e4) h4) E⟩
/-- in a try's body: o.m(e, a new list), o.m(a new list), o.m(e ..) -/
theorem s_mA2L {E : L2.St → XK} (ha : Ev ta σ H (.ref p)) (hi : H p = some (.ins C dx fs)) (hl : fs.lookup m = none) (h1 : Ev t1 σ H v) (ht : EvL te σ H xs) (k : ∀ c H1, H c = none → Ex H H1 → H1 c = some (.lst xs) → sp [.ref p, v, .ref c] H1 (fun _ H2 => D.nx σ H2) (E σ)) : tDrop (tMethA C m sp E ta (tCons t1 (tCons te tNil))) D σ H :=
  ha H (Ex.refl _) _ fun H2 e2 => ⟨p, dx, fs, rfl, e2 _ _ hi, hl, h1 H2 e2 _ fun H3 e3 => ht H3 (e2.trans e3) _ fun c H4 hc e4 h4 => k c H4 (fresh_back (e2.trans e3) hc) ((e2.trans e3).trans e4) h4⟩
theorem s_mA1L {E : L2.St → XK} (ha : Ev ta σ H (.ref p)) (hi : H p = some (.ins C dx fs)) (hl : fs.lookup m = none) (ht : EvL te σ H xs) (k : ∀ c H1, H c = none → Ex H H1 → H1 c = some (.lst xs) → sp [.ref p, .ref c] H1 (fun _ H2 => D.nx σ H2) (E σ)) : tDrop (tMethA C m sp E ta (tCons te tNil)) D σ H :=
  ha H (Ex.refl _) _ fun H2 e2 => ⟨p, dx, fs, rfl, e2 _ _ hi, hl, ht H2 e2 _ fun c H3 hc e3 h3 => k c H3 (fresh_back e2 hc) (e2.trans e3) h3⟩
theorem s_mAV {E : L2.St → XK} (ha : Ev ta σ H (.ref p)) (hi : H p = some (.ins C dx fs)) (hl : fs.lookup m = none) (ht : EvA t σ H vs) (k : ∀ H1, Ex H H1 → sp (.ref p :: vs) H1 (fun _ H2 => D.nx σ H2) (E σ)) : tDrop (tMethA C m sp E ta t) D σ H := mA_run (Q := fun _ H2 => D.nx σ H2) ha hi hl ht k
end
/-! ### what is frozen: all that G has; what is new joins it, but for X -/
open Classical in
noncomputable def grow (G H H1 : Hp) (X : Addr → Prop) : Hp := fun a => if G a ≠ none then G a else if H a = none ∧ ¬ X a then H1 a else none
section
variable {G H H1 : Hp} {X : Addr → Prop} {a : Addr} {o : HO}
theorem grow_ex : Ex G (grow G H H1 X) := fun a o h => by
  unfold grow
  rw [if_pos (by rw [h]; exact fun e => by cases e)]
  exact h
theorem grow_sub (e : Ex G H1) : Ex (grow G H H1 X) H1 := fun a o h => by
  unfold grow at h
  split at h
  · exact e a o h
  · split at h
    · exact h
    · cases h
theorem grow_mono {H2 : Hp} (e : Ex H1 H2) : Ex (grow G H H1 X) (grow G H H2 X) := fun a o h => by
  unfold grow at h ⊢
  split at h
  · rename_i c
    rw [if_pos c]
    exact h
  · rename_i c
    rw [if_neg c]
    split at h
    · rename_i c2
      rw [if_pos c2]
      exact e _ _ h
    · cases h
theorem grow_no (h : H a ≠ none) (g : G a = none) : grow G H H1 X a = none := by
  unfold grow
  rw [if_neg (by rw [g]; exact fun e => e rfl), if_neg fun e => h e.1]
theorem grow_X (x : X a) (g : G a = none) : grow G H H1 X a = none := by
  unfold grow
  rw [if_neg (by rw [g]; exact fun e => e rfl), if_neg fun e => e.2 x]
theorem grow_new (g : G a = none) (h : H a = none) (x : ¬ X a) (h1 : H1 a = some o) : grow G H H1 X a = some o := by
  unfold grow
  rw [if_neg (by rw [g]; exact fun e => e rfl), if_pos ⟨h, x⟩]
  exact h1
end
theorem ef_ref {te : TE} {σ : L2.St} {H : Hp} {a : Addr} {xs : List V} (h : Ev te σ H (.ref a)) (ha : H a = some (.lst xs)) : EvF te σ H xs := ef_var h ha
theorem ev_lenT {K : PySem.W.Frag} {ta : TE} {σ : L2.St} {H : Hp} {p : Addr} {xs : List V} (ha : Ev ta σ H (.ref p)) (h : SqT K H p xs) : Ev (tCB (rLenS K) (tCons ta tNil)) σ H (.int (xs.length : Int)) := ev_cb (ea_cons ha ea_nil) fun H1 e Q q => ⟨p, xs, rfl, .inr (ex_t e h), q H1 (Ex.refl H1)⟩
theorem ints_inj : ∀ {a b : List Int}, a.map V.int = b.map V.int → a = b
  | [], [], _ => rfl
  | [], _ :: _, h => by simp at h
  | _ :: _, [], h => by simp at h
  | a :: r, b :: s, h => by
    rw [List.map_cons, List.map_cons] at h
    injection h with h1 h2
    rw [V.int.inj h1, ints_inj h2]
/-! ### a dict that is being made: its lists are frozen or new -/
def DzG (G H0 H' : Hp) (d : Addr) (n : Nat) (f : Nat → List Int) : Prop := ∃ kvs : List (Key × V), H' d = some (.dK kvs) ∧ kvs.length ≤ n ∧ ∀ s : Nat, (valV kvs (.inl (s : Int)) = none ∧ f s = Z8) ∨ ∃ l, valV kvs (.inl (s : Int)) = some (.ref l) ∧ (G l = some (.lst ((f s).map V.int)) ∨ (H0 l = none ∧ H' l = some (.lst ((f s).map V.int))))
section
variable {G H0 H H' : Hp} {σ : L2.St} {te td tk : TE} {d : Addr} {n s : Nat} {f : Nat → List Int} {D : Ends} {tz : TS}
theorem DzG.ex (h : DzG G H0 H d n f) (e : Ex H H') : DzG G H0 H' d n f := by
  obtain ⟨kvs, h, hl, hs⟩ := h
  exact ⟨kvs, e _ _ h, hl, fun s => (hs s).imp id fun ⟨l, a, b⟩ => ⟨l, a, b.imp id fun c => ⟨c.1, e _ _ c.2⟩⟩⟩
theorem DzG.dz (h : DzG G H0 H d n f) (e : Ex G H) : Dz H d n f := by
  obtain ⟨kvs, h, hl, hs⟩ := h
  exact ⟨kvs, h, hl, fun s => (hs s).imp id fun ⟨l, a, b⟩ => ⟨l, a, b.elim (fun c => e _ _ c) fun c => c.2⟩⟩
theorem DzG.grown (h : DzG G H0 H d n f) (hd : H0 d = none) (g : Ex G H0) : Dz (grow G H0 H fun _ => False) d n f := by
  obtain ⟨kvs, h, hl, hs⟩ := h
  exact ⟨kvs, grow_new (fresh_back g hd) hd id h, hl, fun s => (hs s).imp id fun ⟨l, a, b⟩ => ⟨l, a, b.elim (fun c => grow_ex _ _ c) fun c => grow_new (fresh_back g c.1) c.1 id c.2⟩⟩
theorem q_dcopyG {i : Nat} (g : Ex G H) (hd : Ev td σ H (.ref d)) (hD : Dz G d n f) (k : ∀ p H1, H p = none → Ex H H1 → DzG G H H1 p n f → tz D (σ.set i (some (.ref p))) H1) :
    tSeq (tAsg (tCB (fun xs H Q => ∃ (a : Addr) (kvs : List (Key × V)), xs = [.ref a] ∧ Rd H a (.dK kvs) ∧ ∀ p, H p = none → Q (.ref p) (upd H p (.dK kvs))) (tCons td tNil)) (gName i)) tz D σ H := by
  obtain ⟨kvs, h, hl, hs⟩ := hD
  refine hd H (Ex.refl H) _ fun H1 e1 => ⟨d, kvs, rfl, .inl (e1 _ _ (g _ _ h)), fun p hp => k p _ (fresh_back e1 hp) (e1.trans (Ex.new hp)) ⟨kvs, upd_same, hl, fun s => (hs s).imp id fun ⟨l, a, b⟩ => ⟨l, a, .inl b⟩⟩⟩
theorem s_dputG {zs : List Int} (g : Ex H0 H) (hv : EvL te σ H (zs.map V.int)) (hd : Ev td σ H (.ref d)) (hk : Ev tk σ H (.int (s : Int))) (hD : DzG G H0 H d n f) (hn : n < 100000) (k : ∀ H1 o, Ex H H1 → DzG G H0 (upd H1 d o) d (n + 1) (fset f s zs) → D.nx σ (upd H1 d o)) : sDPut td tk te D σ H := by
  obtain ⟨kvs, h, hl, hs⟩ := hD
  refine hv H (Ex.refl H) _ fun l H1 hl1 e1 h1 => hd H1 e1 _ fun H2 e2 => hk H2 (e1.trans e2) _ fun H3 e3 => ?_
  have e13 := (e1.trans e2).trans e3
  have h3 := e13 _ _ h
  have l3 := e3 _ _ (e2 _ _ h1)
  have hld : l ≠ d := ne_of l3 h3 (by intro z; cases z)
  refine ⟨d, _, rfl, DPut.k (k := Sum.inl (s : Int)) h3 (sz_lt (by omega)), k H3 _ e13 ⟨_, upd_same, Nat.le_trans (length_putK _ _ _) (by omega), fun j => ?_⟩⟩
  rw [valV_put]
  by_cases hj : j = s
  · subst hj
    rw [if_pos rfl]
    refine .inr ⟨l, rfl, .inr ⟨fresh_back g hl1, ?_⟩⟩
    rw [upd_ne hld, l3]
    unfold fset
    rw [if_pos rfl]
  · rw [if_neg (fun z => hj (by cases z; rfl))]
    have ef : fset f s zs j = f j := if_neg hj
    rw [ef]
    refine (hs j).imp id fun ⟨m, a, b⟩ => ⟨m, a, b.imp id fun c => ⟨c.1, ?_⟩⟩
    have b3 := e13 _ _ c.2
    rw [upd_ne (ne_of b3 h3 (by intro z; cases z))]
    exact b3
end
section
variable {K : PySem.W.Frag} {σ : L2.St} {H : Hp} {t1 t2 te : TE} {v1 v2 : V} {xs : List V} {l : Addr} {sp : Sp} {E : XK} {D : Ends} {tz : TS}
/-- x = f(e, e', a new list) -/
theorem q_call3L {i : Nat} (h1 : Ev t1 σ H v1) (h2 : Ev t2 σ H v2) (h3 : EvL te σ H xs) (k : ∀ c H1, H c = none → Ex H H1 → H1 c = some (.lst xs) → sp [v1, v2, .ref c] H1 (fun v H2 => tz D (σ.set i (some v)) H2) E) : tSeq (tAsg (tCall sp [] E (tCons t1 (tCons t2 (tCons te tNil)))) (gName i)) tz D σ H :=
  h1 H (Ex.refl _) _ fun H1 e1 => h2 H1 e1 _ fun H2 e2 => h3 H2 (e1.trans e2) _ fun c H3 hc e3 h3' => k c H3 (fresh_back (e1.trans e2) hc) ((e1.trans e2).trans e3) h3'
/-- x = x + [(e, e')] -/
theorem s_snocT {i : Nat} (ha : Ev te σ H (.ref l)) (hl : H l = some (.lst xs)) (h1 : Ev t1 σ H v1) (h2 : Ev t2 σ H v2) (hz : xs.length < 10000) (k : ∀ t L H1, H t = none → H L = none → Ex H H1 → H1 t = some (.tup [v1, v2]) → H1 L = some (.lst (xs ++ [.ref t])) → D.nx (σ.set i (some (.ref L))) H1) :
    tAsg (tOp rCat te (tLst (tCons (tTup (tCons t1 (tCons t2 tNil))) tNil))) (gName i) D σ H :=
  ha H (Ex.refl _) _ fun H1 e1 => h1 H1 e1 _ fun H2 e2 => h2 H2 (e1.trans e2) _ fun H3 e3 => ⟨by show 2 ≤ sizeLine; decide, fun t ht => ⟨by show 1 ≤ sizeLine; decide, fun b hb => by
    have e4 := Ex.new (o := .tup [v1, v2]) ht
    have e5 := Ex.new (o := .lst [.ref t]) hb
    have e13 := (e1.trans e2).trans e3
    refine ⟨l, b, xs, [.ref t], rfl, rfl, e5 _ _ (e4 _ _ (e13 _ _ hl)), upd_same, sz_of (by simp; omega), fun L hL => ?_⟩
    have e6 := Ex.new (o := .lst (xs ++ [.ref t])) hL
    exact k t L _ (fresh_back e13 ht) (fresh_back ((e13.trans e4).trans e5) hL) (((e13.trans e4).trans e5).trans e6) (e6 _ _ (e5 _ _ upd_same)) upd_same⟩⟩
end
end LP

set_option Elab.async false
set_option linter.all false
set_option maxRecDepth 100000
set_option maxHeartbeats 4000000
namespace LV
open PySem PySem.Spec PyProof.Rows L2 Evl LT LG LH
section
variable {K : PySem.W.Frag} {σ : L2.St} {H : Hp} {tl te : TE} {ta : TA} {P a b : Addr} {xs ys : List V} {okc : Nat → (Nat → V) → V → Prop} {vals : Nat → V} {r : V} {j j2 : Nat} {vs : List Nat}
/-- a generator expression over a list that stands, over a tuple, a range, a text, two lists: elements that leave what is known -/
theorem ev_gxL (h : Ev tl σ H (.ref a)) (hx : SqL K H a xs) (hT : Tab H P) (ok : okc xs.length vals r) (hw : ∀ x, wipe ((wipe σ vs).set j (some x)) vs = wipe σ vs) (he : ∀ (i : Nat) (x : V) H1, Ex H H1 → xs[i]? = some x → Ev te ((wipe σ vs).set j (some x)) H1 (vals i)) : Ev (tGX P okc (iList K tl) (gName j) te vs) σ H r := fun H1 e Q q =>
  h H1 e _ fun H2 e2 => ⟨a, rfl, ⟨xs, ex_l (e.trans e2) hx⟩, hT.mono (e.trans e2), xs.length, vals, r, fun _ H' => Ex H2 H', ok, Ex.refl _, fun i H' hi w => ⟨⟨xs, xs[i], ex_l ((e.trans e2).trans w) hx, List.getElem?_eq_getElem hi⟩, fun x H3 hy => by
    obtain ⟨rfl, hy⟩ := hy
    exact ⟨hw x, he i x _ ((e.trans e2).trans w) (hy xs (ex_l ((e.trans e2).trans w) hx)) _ (Ex.refl _) _ fun H4 e4 => ⟨rfl, w.trans e4⟩⟩⟩, fun H' w => ⟨xs, ex_l ((e.trans e2).trans w) hx, Nat.le_refl _⟩, fun i H' _ w => q H' (e2.trans w)⟩
theorem ev_gxT (h : Ev tl σ H (.ref a)) (hx : SqT K H a xs) (hT : Tab H P) (ok : okc xs.length vals r) (hw : ∀ x, wipe ((wipe σ vs).set j (some x)) vs = wipe σ vs) (he : ∀ (i : Nat) (x : V) H1, Ex H H1 → xs[i]? = some x → Ev te ((wipe σ vs).set j (some x)) H1 (vals i)) : Ev (tGX P okc (iTup K tl) (gName j) te vs) σ H r := fun H1 e Q q =>
  h H1 e _ fun H2 e2 => ⟨a, rfl, ⟨xs, ex_t (e.trans e2) hx⟩, hT.mono (e.trans e2), xs.length, vals, r, fun _ H' => Ex H2 H', ok, Ex.refl _, fun i H' hi w => ⟨⟨xs, xs[i], ex_t ((e.trans e2).trans w) hx, List.getElem?_eq_getElem hi⟩, fun x H3 hy => by
    obtain ⟨rfl, hy⟩ := hy
    exact ⟨hw x, he i x _ ((e.trans e2).trans w) (hy xs (ex_t ((e.trans e2).trans w) hx)) _ (Ex.refl _) _ fun H4 e4 => ⟨rfl, w.trans e4⟩⟩⟩, fun H' w => ⟨xs, ex_t ((e.trans e2).trans w) hx, Nat.le_refl _⟩, fun i H' _ w => q H' (e2.trans w)⟩
theorem ev_gxR {n : Int} (h : EvA ta σ H [.int n]) (hn : 0 ≤ n ∧ n ≤ 100000) (hT : Tab H P) (ok : okc n.toNat vals r) (hw : ∀ x, wipe ((wipe σ vs).set j (some x)) vs = wipe σ vs) (he : ∀ (i : Nat) H1, Ex H H1 → (i : Int) < n → Ev te ((wipe σ vs).set j (some (.int (i : Int)))) H1 (vals i)) : Ev (tGX P okc (iRng1 ta) (gName j) te vs) σ H r := fun H1 e Q q =>
  h H1 e _ fun H2 e2 => ⟨n, rfl, by omega, by omega, hT.mono (e.trans e2), n.toNat, vals, r, fun _ H' => Ex H2 H', ok, Ex.refl _, fun i H' hi w => ⟨hi, fun x H3 hy => by
    obtain ⟨rfl, rfl⟩ := hy
    rw [Int.zero_add]
    exact ⟨hw _, he i _ ((e.trans e2).trans w) (by omega) _ (Ex.refl _) _ fun H4 e4 => ⟨rfl, w.trans e4⟩⟩⟩, fun H' w => Nat.le_refl _, fun i H' _ w => q H' (e2.trans w)⟩
theorem ev_gxS {z : Str} (h : Ev tl σ H (.str z)) (hT : Tab H P) (ok : okc z.cps.size vals r) (hw : ∀ x, wipe ((wipe σ vs).set j (some x)) vs = wipe σ vs) (he : ∀ (i : Nat) (c : Nat) H1, Ex H H1 → z.cps[i]? = some c → Ev te ((wipe σ vs).set j (some (.str ⟨#[c]⟩))) H1 (vals i)) : Ev (tGX P okc (iStr tl) (gName j) te vs) σ H r := fun H1 e Q q =>
  h H1 e _ fun H2 e2 => ⟨z, rfl, hT.mono (e.trans e2), z.cps.size, vals, r, fun _ H' => Ex H2 H', ok, Ex.refl _, fun i H' hi w => ⟨hi, fun x H3 hy => by
    obtain ⟨rfl, c, hc, rfl⟩ := hy
    exact ⟨hw _, he i c _ ((e.trans e2).trans w) hc _ (Ex.refl _) _ fun H4 e4 => ⟨rfl, w.trans e4⟩⟩⟩, fun H' w => Nat.le_refl _, fun i H' _ w => q H' (e2.trans w)⟩
/-- over zip of two lists -/
theorem ev_gxZ {n : Nat} (h : EvA ta σ H [.ref a, .ref b]) (hx : SqL K H a xs) (hy : SqL K H b ys) (hn : n = min xs.length ys.length) (hT : Tab H P) (ok : okc n vals r) (hw : ∀ x y, wipe (((wipe σ vs).set j (some x)).set j2 (some y)) vs = wipe σ vs)
    (he : ∀ (i : Nat) (x y : V) H1, Ex H H1 → xs[i]? = some x → ys[i]? = some y → Ev te (((wipe σ vs).set j (some x)).set j2 (some y)) H1 (vals i)) : Ev (tGX P okc (iZip K ta) (gTup K 2 (gCons (gName j) (gCons (gName j2) gNil))) te vs) σ H r := fun H1 e Q q =>
  h H1 e _ fun H2 e2 => ⟨a, b, xs, ys, rfl, ex_l (e.trans e2) hx, ex_l (e.trans e2) hy, hT.mono (e.trans e2), n, vals, r, fun _ H' => Ex H2 H', ok, Ex.refl _, fun i H' hi w => ⟨⟨xs, ys, xs[i]'(by omega), ys[i]'(by omega), ex_l ((e.trans e2).trans w) hx, ex_l ((e.trans e2).trans w) hy, List.getElem?_eq_getElem _, List.getElem?_eq_getElem _⟩, fun x H3 hz => by
    obtain ⟨T, x1, y1, rfl, hT1, rfl, h1, h2⟩ := hz
    have e3 := ((e.trans e2).trans w).trans (Ex.new (o := .tup [x1, y1]) hT1)
    refine ⟨T, _, rfl, st_of upd_same, rfl, _, _, rfl, _, _, rfl, rfl, hw x1 y1, ?_⟩
    exact he i x1 y1 _ e3 (h1 xs (ex_l ((e.trans e2).trans w) hx)) (h2 ys (ex_l ((e.trans e2).trans w) hy)) _ (Ex.refl _) _ fun H4 e4 => ⟨rfl, (w.trans (Ex.new hT1)).trans e4⟩⟩, fun H' w => ⟨xs, ys, ex_l ((e.trans e2).trans w) hx, ex_l ((e.trans e2).trans w) hy, by omega⟩, fun i H' _ w => q H' (e2.trans w)⟩
theorem ok_all {n : Nat} (f : Nat → Bool) : okAll n (fun i => .bl (f i)) (.bl (allF n f)) := ⟨f, rfl, rfl⟩
theorem ok_any {n : Nat} (f : Nat → Bool) : okAny n (fun i => .bl (f i)) (.bl (anyF n f)) := ⟨f, rfl, rfl⟩
theorem ok_sum {n : Nat} (f : Nat → Int) (h : ∀ j, j < n → InLong (f j) ∧ InLong (preSum f (j + 1))) : okSum n (fun i => .int (f i)) (.int (preSum f n)) := ⟨f, rfl, rfl, h⟩
theorem ok_max {n : Nat} (f : Nat → Int) (h : 0 < n) : okMax n (fun i => .int (f i)) (.int (topI f (n - 1))) := ⟨f, rfl, rfl, h⟩
/-- sum(a new list of ints) -/
theorem ev_sumN {ns : List Int} (h : EvL te σ H (ns.map V.int)) : Ev (tCB (rSum K) (tCons te tNil)) σ H (.int ns.sum) := fun H1 e Q q =>
  h H1 e _ fun p H2 _ e2 h2 => ⟨p, ns, rfl, sq_of h2, q H2 e2⟩
end
end LV
namespace LV
open PySem PySem.Spec PyProof.Rows L2 Evl LT LG LH LP StX
section
variable {K : PySem.W.Frag} {σ : L2.St} {H H' : Hp} {tl te ta tb : TE} {t : TA} {p l : Addr} {xs ys : List V} {v : V} {D : Ends} {tz : TS}
theorem ea_starT (h : Ev te σ H (.ref p)) (hx : SqT K H p xs) (hr : EvA t σ H ys) : EvA (tStar K te t) σ H (xs ++ ys) := fun H1 e Q q =>
  h H1 e _ fun H2 e2 => ⟨p, xs, rfl, .inl (ex_t (e.trans e2) hx), hr H2 (e.trans e2) _ fun H3 e3 => q H3 (e2.trans e3)⟩
theorem ea_starN (h : EvL te σ H xs) (hr : EvA t σ H ys) : EvA (tStar K te t) σ H (xs ++ ys) := fun H1 e Q q =>
  h H1 e _ fun p H2 _ e2 h2 => ⟨p, xs, rfl, .inr (sq_of h2), hr H2 (e.trans e2) _ fun H3 e3 => q H3 (e2.trans e3)⟩
theorem cut_mid (xs : List V) {i j : Nat} (h : i ≤ j) (hj : j ≤ xs.length) : cutV xs (some (i : Int)) (some (j : Int)) = (xs.drop i).take (j - i) := by
  unfold cutV
  rw [HT.sIx_nat, HT.sIx_nat]; try rw [show min j xs.length = j from Nat.min_eq_left hj]
  rw [show min i xs.length = i from Nat.min_eq_left (Nat.le_trans h hj)]
/-- xs[i] of a new list -/
theorem ev_ixN {i : Int} (ha : EvL ta σ H xs) (hb : ∀ H1, Ex H H1 → Ev tb σ H1 (.int i)) (h : atI xs i = some v) : Ev (tOp (rIxL K) ta tb) σ H v := ev_opL1 ha hb fun p H1 h1 _ => rv_ixL (sq_of h1) h
/-- tuple(a list that stands or is new) is eu_tupL; of a tuple: the same -/
theorem ev_tupT (h : Ev te σ H (.ref p)) (hx : SqT K H p xs) : Ev (tCB (fun zs H Q => ∃ p ys, zs = [.ref p] ∧ ((SqL K H p ys ∧ ∀ l, H l = none → Q (.ref l) (upd H l (.tup ys))) ∨ (SqT K H p ys ∧ Q (.ref p) H))) (tCons te tNil)) σ H (.ref p) := fun H1 e Q q =>
  h H1 e _ fun H2 e2 => ⟨p, xs, rfl, .inr ⟨ex_t (e.trans e2) hx, q H2 e2⟩⟩
theorem ev_lenL (ha : Ev te σ H (.ref p)) (h : H p = some (.lst xs)) : Ev (tCB (rLenS K) (tCons te tNil)) σ H (.int (xs.length : Int)) := ev_len ha (sq_of h)
/-- a tuple made of a new tuple and .. -/
theorem q_appUL {ys : List V} (hl : H l = some (.lst xs)) (ha : Ev ta σ H (.ref l)) (h : EvU te σ H ys) (hz : xs.length < 100000) (k : ∀ p H1, H p = none → Ex H H1 → H1 p = some (.tup ys) → tz D σ (upd H1 l (.lst (xs ++ [.ref p])))) :
    tSeq (tDrop (tBM K "list" rAppend ta (tCons te tNil))) tz D σ H := q_appU hl ha h hz k
end
/-! ### heaps in which one object may change -/
def Bx (p : Addr) (H H' : Hp) : Prop := ∀ a o, a ≠ p → H a = some o → H' a = some o
theorem Bx.of {p : Addr} {H H' : Hp} (e : Ex H H') : Bx p H H' := fun a o _ h => e a o h
theorem Bx.trans {p : Addr} {H H1 H2 : Hp} (e : Bx p H H1) (f : Bx p H1 H2) : Bx p H H2 := fun a o n h => f a o n (e a o n h)
theorem Bx.up {p : Addr} {H H' : Hp} {o : HO} (e : Bx p H H') : Bx p H (upd H' p o) := fun a u n h => by
  rw [upd_ne n]
  exact e a u n h
theorem Bx.ex {p : Addr} {H0 H H' : Hp} (e : Ex H0 H) (f : Bx p H H') (n : H0 p = none) : Ex H0 H' := fun a o h => f a o (fun z => by rw [z, n] at h; cases h) (e a o h)
theorem Bx.back {p q : Addr} {H H' : Hp} (e : Bx p H H') (n : q ≠ p) (h : H' q = none) : H q = none := by
  cases h1 : H q with
  | none => rfl
  | some o =>
    rw [e q o n h1] at h
    cases h
end LV
namespace LV
open PySem PySem.Spec PyProof.Rows L2 Evl LT LG LH LP StX
section
variable {σ : L2.St} {H : Hp} {t1 t2 te : TE} {v1 v2 : V} {xs ys : List V} {sp : Sp} {E : XK} {D : Ends} {tz : TS}
/-- x = f(e, a new list) -/
theorem q_call2L {i : Nat} (h1 : Ev t1 σ H v1) (h2 : EvL te σ H xs) (k : ∀ c H1, H c = none → Ex H H1 → H1 c = some (.lst xs) → sp [v1, .ref c] H1 (fun v H2 => tz D (σ.set i (some v)) H2) E) : tSeq (tAsg (tCall sp [] E (tCons t1 (tCons te tNil))) (gName i)) tz D σ H :=
  h1 H (Ex.refl _) _ fun H1 e1 => h2 H1 e1 _ fun c H2 hc e2 h3 => k c H2 (fresh_back e1 hc) (e1.trans e2) h3
theorem ev_is' (h : EvU te σ H xs) (e : xs = ys) : EvU te σ H ys := by
  rw [← e]
  exact h
end
end LV
namespace LV
open PySem PySem.Spec PyProof.Rows L2 Evl LT LG LH LP StX
/-! ### a heap without some of its objects -/
def frz (S : List Addr) (H : Hp) : Hp := fun a => if a ∈ S then none else H a
theorem frz_ne {S : List Addr} {H : Hp} {a : Addr} (h : a ∉ S) : frz S H a = H a := if_neg h
theorem frz_upd {S : List Addr} {H : Hp} {a : Addr} {o : HO} (h : a ∈ S) : frz S (upd H a o) = frz S H := funext fun b => by
  unfold frz
  by_cases hb : b ∈ S
  · rw [if_pos hb, if_pos hb]
  · rw [if_neg hb, if_neg hb, upd_ne fun z => hb (by rw [z]; exact h)]
theorem frz_ex {S : List Addr} {H : Hp} : Ex (frz S H) H := fun a o h => by
  unfold frz at h
  by_cases hb : a ∈ S
  · rw [if_pos hb] at h
    cases h
  · rw [if_neg hb] at h
    exact h
theorem ex_frz {S : List Addr} {H H' : Hp} (e : Ex H H') : Ex (frz S H) (frz S H') := fun a o h => by
  unfold frz at h ⊢
  by_cases hb : a ∈ S
  · rw [if_pos hb] at h
    cases h
  · rw [if_neg hb] at h ⊢
    exact e _ _ h
theorem frz_some {S : List Addr} {H : Hp} {a : Addr} {o : HO} (h : frz S H a = some o) : a ∉ S ∧ H a = some o := by
  unfold frz at h
  by_cases hb : a ∈ S
  · rw [if_pos hb] at h
    cases h
  · rw [if_neg hb] at h
    exact ⟨hb, h⟩
theorem Bx.mut {p w : Addr} {H H' : Hp} {o : HO} (e : Bx p H H') (h : H w = none) : Bx p H (upd H' w o) := fun a u n ha => by
  rw [upd_ne fun z => by rw [z, h] at ha; cases ha]
  exact e a u n ha
theorem Bx.l {K : PySem.W.Frag} {p a : Addr} {H H' : Hp} {xs : List V} (e : Bx p H H') (n : a ≠ p) (h : SqL K H a xs) : SqL K H' a xs := by
  rcases h with (h | ⟨o, h⟩) | h
  · exact .inl (.inl (e _ _ n h))
  · exact .inl (.inr ⟨o, e _ _ n h⟩)
  · exact .inr h
end LV
namespace LV
open PySem PySem.Spec PyProof.Rows L2 Evl LT LG LH LP StX
/-- what a for over the list a asks -/
abbrev FB (K : PySem.W.Frag) (a : Addr) (g : TG) (tb : TS) (D : Ends) (σ : L2.St) (H : Hp) : Prop := ∃ W : Nat → Nat → L2.St → Hp → Prop, (∃ m, W 0 m σ H) ∧ ∀ i m σ H, W i m σ H →
  ((Itl K a).stop i H ∧ D.nx σ H) ∨ ((Itl K a).go i H ∧ ∃ N : L2.St → Hp → Prop, (∀ σ' H', N σ' H' → ∃ m', m' < m ∧ W (i + 1) m' σ' H') ∧ ∀ x H', (Itl K a).yld i H x H' → g x σ H' fun σ2 H2 => tb { D with nx := N, ct := N, bk := D.nx } σ2 H2)
/-- for .. in f(..): the call makes a list -/
theorem s_forCall {K : PySem.W.Frag} {σ : L2.St} {H : Hp} {g : TG} {tb : TS} {D : Ends} {sp : Sp} {E : XK} {tr : TA} {vs : List V} (h : EvA tr σ H vs) (k : ∀ H1, Ex H H1 → sp vs H1 (fun x H2 => ∃ a, x = V.ref a ∧ (∃ xs, SqL K H2 a xs) ∧ FB K a g tb D σ H2) E) : tFor (iList K (tCall sp [] E tr)) g tb D σ H :=
  h H (Ex.refl _) _ fun H1 e1 => by
    rw [List.append_nil]
    exact k H1 e1
theorem q_forCall {K : PySem.W.Frag} {σ : L2.St} {H : Hp} {g : TG} {tb tz : TS} {D : Ends} {sp : Sp} {E : XK} {tr : TA} {vs : List V} (h : EvA tr σ H vs) (k : ∀ H1, Ex H H1 → sp vs H1 (fun x H2 => ∃ a, x = V.ref a ∧ (∃ xs, SqL K H2 a xs) ∧ FB K a g tb { D with nx := tz D } σ H2) E) : tSeq (tFor (iList K (tCall sp [] E tr)) g tb) tz D σ H := s_forCall (D := { D with nx := tz D }) h k
section
variable {P : Program} {w : World} {K : PySem.W.Frag} {mg : Str → Option Value} {base : Heap}
/-- as FunC.ok, for a def that may raise -/
theorem _root_.LS.FunC.okX {x qual : Str} {st : Stmt} {f c : Addr} {fd : FuncData} {N ps : List Str} {k : Nat} {sp : Sp} (F : LS.FunC K x qual st f fd c) (S : FnScope N ps (defScope st)) (len : ∀ vs H Q E, sp vs H Q E → vs.length = ps.length)
    (hbody : ∀ (A : Around) (outer : List Env) (s : Shared) (H : Hp) (vs : List V) (Q : VK) (E : XK), Room k (A.deeper (envOfC qual (defScope st) s.heap.objs.size f (.ref c))) → sp vs H Q E →
      ∃ t, PSs (cxOf (L2.CX P w) P w K mg base N qual (defScope st) f (.ref c) A outer s H E) (defBody st) t ∧ t { nx := fun _ H' => Q .non H', rt := Q } (start N vs) H) : FnOk P w K mg base (L2.CX P w) (k + 1) f fd ps sp := by
  obtain ⟨oc, od, kV, doc, pm, an, ct, osl, rfl, lk, hcd⟩ := F.ex
  exact fn_of lk hcd S len fun A outer s H vs Q E hr hsp => hbody A outer s H vs Q E hr hsp
end
end LV

set_option Elab.async false
set_option linter.all false
set_option maxRecDepth 100000
set_option maxHeartbeats 4000000
namespace LD
open PySem PySem.Spec PyProof.Rows L2 Evl LT LG LH LV LP LO
/-! ### a dict with int keys that stands at d -/
section
variable {K : PySem.W.Frag} {σ : L2.St} {H : Hp} {td tk te tl : TE} {d : Addr} {kvs : List (Key × V)} {z : Int} {v : V} {D : Ends} {tz : TS}
theorem ev_dIn (hk : Ev tk σ H (.int z)) (hd : Ev td σ H (.ref d)) (h : H d = some (.dK kvs)) : Ev (tDIn tk td) σ H (.bl (valV kvs (.inl z)).isSome) := fun H1 e Q q =>
  hk H1 e _ fun H2 e2 => hd H2 (e.trans e2) _ fun H3 e3 => ⟨d, _, rfl, DGet.k (k := Sum.inl z) (((e.trans e2).trans e3) _ _ h), q H3 (e2.trans e3)⟩
theorem ev_dNi (hk : Ev tk σ H (.int z)) (hd : Ev td σ H (.ref d)) (h : H d = some (.dK kvs)) : Ev (tDNotIn tk td) σ H (.bl (!(valV kvs (.inl z)).isSome)) := fun H1 e Q q =>
  hk H1 e _ fun H2 e2 => hd H2 (e.trans e2) _ fun H3 e3 => ⟨d, _, rfl, DGet.k (k := Sum.inl z) (((e.trans e2).trans e3) _ _ h), q H3 (e2.trans e3)⟩
theorem ev_dget (hd : Ev td σ H (.ref d)) (hk : Ev tk σ H (.int z)) (h : H d = some (.dK kvs)) (hv : valV kvs (.inl z) = some v) : Ev (tDGet td tk) σ H v := fun H1 e Q q =>
  hd H1 e _ fun H2 e2 => hk H2 (e.trans e2) _ fun H3 e3 => ⟨d, v, rfl, by rw [← hv]; exact DGet.k (k := Sum.inl z) (((e.trans e2).trans e3) _ _ h), q H3 (e2.trans e3)⟩
theorem s_dputU {xs : List V} (hv : EvU te σ H xs) (hd : Ev td σ H (.ref d)) (hk : Ev tk σ H (.int z)) (h : H d = some (.dK kvs)) (hl : kvs.length < 100000) (k : ∀ p H1, H p = none → Ex H H1 → H1 p = some (.tup xs) → D.nx σ (upd H1 d (.dK (putK kvs (.inl z) (.ref p))))) : sDPut td tk te D σ H :=
  hv H (Ex.refl _) _ fun p H1 hp e1 h1 => hd H1 e1 _ fun H2 e2 => hk H2 (e1.trans e2) _ fun H3 e3 => ⟨d, _, rfl, DPut.k (k := Sum.inl z) (((e1.trans e2).trans e3) _ _ h) (sz_lt hl), k p H3 hp ((e1.trans e2).trans e3) (e3 _ _ (e2 _ _ h1))⟩
theorem s_dputL' {xs : List V} (hv : EvL te σ H xs) (hd : Ev td σ H (.ref d)) (hk : Ev tk σ H (.int z)) (h : H d = some (.dK kvs)) (hl : kvs.length < 100000) (k : ∀ p H1, H p = none → Ex H H1 → H1 p = some (.lst xs) → D.nx σ (upd H1 d (.dK (putK kvs (.inl z) (.ref p))))) : sDPut td tk te D σ H :=
  hv H (Ex.refl _) _ fun p H1 hp e1 h1 => hd H1 e1 _ fun H2 e2 => hk H2 (e1.trans e2) _ fun H3 e3 => ⟨d, _, rfl, DPut.k (k := Sum.inl z) (((e1.trans e2).trans e3) _ _ h) (sz_lt hl), k p H3 hp ((e1.trans e2).trans e3) (e3 _ _ (e2 _ _ h1))⟩
theorem s_ddel (hd : Ev td σ H (.ref d)) (hk : Ev tk σ H (.int z)) (h : H d = some (.dK kvs)) (hv : (valV kvs (.inl z)).isSome = true) (k : ∀ H1, Ex H H1 → D.nx σ (upd H1 d (.dK (dropK kvs (.inl z))))) : sDDel td tk D σ H :=
  hd H (Ex.refl _) _ fun H1 e1 => hk H1 e1 _ fun H2 e2 => ⟨d, kvs, .inl z, rfl, (e1.trans e2) _ _ h, rfl, hv, k H2 (e1.trans e2)⟩
/-- a lock is taken and given back -/
theorem ex_unlock {H H2 : Hp} {u : HO} {od : Obj} (hd : H d = some u) (e : Ex (upd H d (.frz od u)) H2) : Ex H (upd H2 d u) := fun a o h => by
  by_cases ha : a = d
  · rw [ha, upd_same, ← hd, ← ha]
    exact h
  · rw [upd_ne ha]
    exact e _ _ (by rw [upd_ne ha]; exact h)
theorem ev_lock {u : HO} (hd : H d = some u) (mu : Mut (some u)) (h : ∀ od H1, Ex H H1 → Ev te σ (upd H1 d (.frz od u)) v) : Ev (tLockE te) σ H v := fun H1 e Q q =>
  ⟨d, u, e _ _ hd, mu, fun od => h od H1 e _ (Ex.refl _) _ fun H2 e2 => ⟨e2 _ _ upd_same, q _ (ex_unlock (e _ _ hd) e2)⟩⟩
/-- over the values of a dict -/
theorem ev_gxV {P : Addr} {okc : Nat → (Nat → V) → V → Prop} {vals : Nat → V} {r : V} {j : Nat} {vs : List Nat} (hd : H d = some (.dK kvs)) (h : ∀ od H1, Ex H H1 → Ev tl σ (upd H1 d (.frz od (.dK kvs))) (.ref d)) (hT : Tab H P) (hPd : P ≠ d) (ok : okc kvs.length vals r) (hw : ∀ x, wipe ((wipe σ vs).set j (some x)) vs = wipe σ vs)
    (he : ∀ (i : Nat) (k : Key) (x : V) od H1 H2, Ex H H1 → Ex (upd H1 d (.frz od (.dK kvs))) H2 → kvs[i]? = some (k, x) → Ev te ((wipe σ vs).set j (some x)) H2 (vals i)) : Ev (tLockE (tGX P okc (iVals tl) (gName j) te vs)) σ H r :=
  ev_lock hd True.intro fun od H0 e0 H1 e1 Q q => h od H0 e0 H1 e1 _ fun H2 e2 => by
    have e12 := e1.trans e2
    refine ⟨d, od, kvs, rfl, e12 _ _ upd_same, e12 _ _ (by rw [upd_ne hPd]; exact e0 _ _ hT), kvs.length, vals, r, fun _ H' => Ex H2 H', ok, Ex.refl _, fun i H' hi w => ⟨⟨w _ _ (e12 _ _ upd_same), hi⟩, fun x H3 hy => ?_⟩, fun H' w => ⟨w _ _ (e12 _ _ upd_same), Nat.le_refl _⟩, fun i H' _ w => q H' (e2.trans w)⟩
    obtain ⟨rfl, k, hk⟩ := hy
    exact ⟨hw x, he i k x od H0 _ e0 (e12.trans w) hk _ (Ex.refl _) _ fun H4 e4 => ⟨rfl, w.trans e4⟩⟩
/-- sorted(d): the keys, each once -/
theorem el_sortedD {ks : List Int} {ns : List Int} (h : Ev te σ H (.ref d)) (hd : H d = some (.dK kvs)) (hks : kvs.map (·.1) = ks.map Sum.inl) (h64 : ks.length < 64) (hs : ∀ ys : List Int, ys.Perm ks → ys.Pairwise (· ≤ ·) → ys = ns) : EvL (tCB (fun xs H Q => ∃ (a : Addr) (kvs : List (Key × V)) (ks : List Int), xs = [.ref a] ∧ Rd H a (.dK kvs) ∧ kvs.map (·.1) = ks.map Sum.inl ∧ ks.length < 64 ∧
    ∀ (ys : List Int) (p : Addr), ys.Perm ks → ys.Pairwise (· ≤ ·) → H p = none → Q (.ref p) (upd H p (.lst (ys.map V.int)))) (tCons te tNil)) σ H (ns.map V.int) := fun H1 e Q q =>
  h H1 e _ fun H2 e2 => ⟨d, kvs, ks, rfl, .inl (e2 _ _ (e _ _ hd)), hks, h64, fun ys p h1 h2 hp => q p _ (fresh_back e2 hp) (e2.trans (Ex.new hp)) (by rw [upd_same, hs ys h1 h2])⟩
end
/-- a sorted list of the same numbers is the same list -/
theorem sorted_uni : ∀ {a b : List Int}, a.Perm b → a.Pairwise (· ≤ ·) → b.Pairwise (· ≤ ·) → a = b
  | [], b, p, _, _ => p.nil_eq
  | x :: r, b, p, h1, h2 => by
    cases b with
    | nil => exact absurd p.symm.nil_eq (by simp)
    | cons y t =>
      have hx : x ∈ y :: t := p.mem_iff.mp List.mem_cons_self
      have hy : y ∈ x :: r := p.mem_iff.mpr List.mem_cons_self
      have e : x = y := by
        rcases List.mem_cons.mp hx with e | hx
        · exact e
        · rcases List.mem_cons.mp hy with e | hy
          · exact e.symm
          · have a1 := (List.pairwise_cons.mp h1).1 y hy
            have a2 := (List.pairwise_cons.mp h2).1 x hx
            omega
      subst e
      rw [sorted_uni (p.cons_inv) (List.pairwise_cons.mp h1).2 (List.pairwise_cons.mp h2).2]
/-! ### the keys of a dict that is put to, that is dropped from -/
theorem put_keys {kvs : List (Key × V)} {k : Key} {v : V} (h : valV kvs k = none) : putK kvs k v = kvs ++ [(k, v)] := by
  unfold putK
  rw [valV_any, h]
  rfl
theorem valV_drop (kvs : List (Key × V)) (k j : Key) : valV (dropK kvs k) j = if j = k then none else valV kvs j := by
  induction kvs with
  | nil =>
    show valV [] j = _
    rw [valV_nil]
    split <;> rfl
  | cons p r ih =>
    unfold dropK at ih ⊢
    by_cases hp : p.1 = k
    · rw [List.filter_cons_of_neg (by simpa using hp), ih]
      by_cases hj : j = k
      · rw [if_pos hj, if_pos hj]
      · rw [if_neg hj, if_neg hj, valV_neg (fun e => hj (by rw [← e, hp]))]
    · rw [List.filter_cons_of_pos (by simpa using hp)]
      by_cases hj : p.1 = j
      · rw [valV_pos hj, valV_pos hj, if_neg (fun e => hp (by rw [hj, e]))]
      · rw [valV_neg hj, valV_neg hj, ih]
end LD

set_option Elab.async false
set_option linter.all false
set_option maxRecDepth 100000
set_option maxHeartbeats 4000000
namespace HE
open PySem PySem.Spec PyProof.Rows L2 Evl LT
/-! ### the head by facts: defs, their code objects, the walk's end -/
theorem fun_of {K : PySem.W.Frag} {x qual : Str} {st : Stmt} {f : Addr} {fd : FuncData} (F : FunD K x qual (defArgs st) (defBody st) (defScope st) [] [] f fd) : Fun K x qual st f fd := by
  obtain ⟨oc, od, dV, kV, doc, pm, an, cdv, ct, osl, rfl, lk, hcd, hd, _⟩ := F.ex
  have e : dV = .none := by
    rcases hd with ⟨_, h⟩ | ⟨h, _⟩
    · exact h
    · exact absurd rfl h
  subst e
  exact ⟨⟨oc, od, kV, doc, pm, an, cdv, ct, osl, rfl, lk, hcd⟩, F.kp⟩
theorem funC_of {K : PySem.W.Frag} {x qual : Str} {st : Stmt} {p : He.Defn} {fd : FuncData} (F : Fun K x qual st (He.fAd K p) fd) : LS.FunC K x qual st (He.fAd K p) fd (He.codeOf K p) := by
  obtain ⟨oc, od, kV, doc, pm, an, cdv, ct, osl, rfl, lk, hcd⟩ := F.ex
  obtain ⟨c, rfl⟩ := He.codeIn_ref hcd
  have e : He.codeOf K p = c := He.codeOf_eq lk rfl
  rw [e]
  exact ⟨⟨oc, od, kV, doc, pm, an, ct, osl, rfl, lk, hcd⟩, F.kp⟩
/-- what the Bool ex tells of the classes -/
def eqS (a b : Option (Option Value)) : Bool := decide (a = b)
theorem eqS_ok {a b : Option (Option Value)} (h : eqS a b = true) : a = b := of_decide_eq_true h
def dictC (K : PySem.W.Frag) (x : Str) : Bool := PySem.W.hasDictIn K (He.ga K x)
def subC (K : PySem.W.Frag) (x y : Str) (b : Bool) : Bool := decide (PySem.W.subIn K (.ref (He.ga K x)) (.ref (He.ga K y)) = some b)
theorem subC_ok {K : PySem.W.Frag} {x y : Str} {b : Bool} (h : subC K x y b = true) : PySem.W.subIn K (.ref (He.ga K x)) (.ref (He.ga K y)) = some b := of_decide_eq_true h
def excC (K : PySem.W.Frag) (x : Str) : Bool := eqS (PySem.W.findIn K (.ref (He.ga K x)) "__getattribute__") (some (some (.builtin "BaseException.__getattribute__"))) && (eqS (PySem.W.findIn K (.ref (He.ga K x)) "__getattr__") (some none) &&
  (decide (PySem.W.subIn K (.ref (He.ga K x)) (.type "BaseException") = some true) && (PySem.W.hasDictIn K (He.ga K x) && (eqS (PySem.W.findIn K (.ref (He.ga K x)) "__class__") (some (some (.builtin "object.__class__"))) &&
  (eqS (PySem.W.specialIn K (.builtin "object.__class__") "__get__") (some (some (.builtin "getset_descriptor.__get__"))) && (decide (PySem.W.takesIn K (.builtin "object.__class__") = some true) && decide (PySem.W.mroIn K (He.ga K x) (.type "object") = some true)))))))
theorem excC_ok {K : PySem.W.Frag} {x : Str} (h : excC K x = true) : ExcC K (He.ga K x) := by
  obtain ⟨h1, h⟩ := He.ba h
  obtain ⟨h2, h⟩ := He.ba h
  obtain ⟨h3, h⟩ := He.ba h
  obtain ⟨h4, h⟩ := He.ba h
  obtain ⟨h5, h⟩ := He.ba h
  obtain ⟨h6, h⟩ := He.ba h
  obtain ⟨h7, h8⟩ := He.ba h
  exact ⟨eqS_ok h1, eqS_ok h2, of_decide_eq_true h3, h4, eqS_ok h5, eqS_ok h6, of_decide_eq_true h7, of_decide_eq_true h8⟩
theorem xc_of {K : PySem.W.Frag} {h : Heap} {mg : Str → Option Value} {x : Str} (X : K.In h) (G : h.Ns mainGlobals mg) (g : (He.Fa.glo x).ok K = true) (c : (He.Fa.exc x).ok K = true) (d : dictC K x = true) : LX.Xc K mg x (He.ga K x) := by
  obtain ⟨h1, h2, h3, h4⟩ := He.exc_ok c
  exact ⟨He.glo_ok X G g, h1, h2, h3, h4, d⟩
theorem binds1 {K : PySem.W.Frag} {x qual y : Str} {st : Stmt} {f : Addr} {fd : FuncData} (F : Fun K x qual st f fd) (h : ∀ (kV doc pm : Value) (an : Option Addr) (cdv ct : Value) (u : Value), bindArgs (PySem.W.fnOf x qual (defArgs st) (defBody st) (defScope st) .none kV doc pm an cdv ct) ⟨[u], []⟩ = pure [(y, u)]) (s : Shared) (u : Value) : BindsTo s fd ⟨[u], []⟩ [(y, u)] := by
  obtain ⟨oc, od, kV, doc, pm, an, cdv, ct, osl, rfl, lk, hcd⟩ := F.ex
  exact .of_eq (h kV doc pm an cdv ct u)
/-- the walk, tables of any defs (methods too) -/
theorem walk_facts {l : PySem.W.OpenLaw} {n k : Nat} {q : Program} {loose : List Str} {XP : (Str → Option Value) → Heap → Prop} {YP : World → Heap → Prop} {d : DefRec} {x : Str}
    (hn : l.most = some n) (hn2 : n ≤ sizeLine) (hdf : d.params.defaults = []) (hr : Room k callerA)
    (F : ∀ (w : World) (mg : Str → Option Value) (fa : Addr) (h : Heap), YP w h → h.Ns mainGlobals mg → mg d.name = some (.ref fa) →
      ∃ (K : PySem.W.Frag) (fd : FuncData) (cs : List (Addr × Addr)) (sp : Sp), K.In h ∧ (∀ p ∈ cs, h.get? p.2 = some { cls := .none, data := .fields #[] } ∧ K.lookup p.2 = none ∧ PySem.W.CodeHd h p.1 p.2) ∧ (∀ (s : Shared) (u : Value), BindsTo s fd ⟨[u], []⟩ [(x, u)]) ∧
        (∀ (H : Hp) (a : Addr) (ns : List Int), ns.length ≤ n → (∀ p ∈ cs, Tab H p.2) → SqL K H a (ns.map V.int) → ∀ Q : VK, (∀ H', Ex H H' → Q (.bl true) H') → sp [.ref a] H Q fun _ _ _ => False) ∧
        ∀ base : Heap, K.In base → base.Ns mainGlobals mg → (∀ p ∈ cs, LamX.TabB base mg p.1 p.2) → FnOk l.prog w K mg base CX0 k fa fd [x] sp) :
    PySem.W.WalkO q loose XP YP l.row.toRowW d [] (fun f vs => PySem.call f vs) := by
  refine LamX.walk_ofTsE (x := x) (CX := fun _ => CX0) hn hn2 hdf hr (fun w mg fa h Y G hmg => ?_) (fun _ _ _ _ _ z => z)
  obtain ⟨K, fd, cs, sp, KX, hcs, hb, hsp, hF⟩ := F w mg fa h Y G hmg
  refine ⟨K, KX, fd, cs, spExt (cs.map fun p => p.2) sp, fun p hp => (hcs p hp).1, fun p hp => (hcs p hp).2.1, fun p hp => (hcs p hp).2.2, hb, fun H a ns hlen _ hH hS => ⟨fun b hb => ?_, ?_⟩, fun base h1 h2 h3 => ok_ext (hF base h1 h2 h3)⟩
  · obtain ⟨p, hp, rfl⟩ := List.mem_map.mp hb
    exact hH p hp
  · have hnt : ∀ p ∈ cs, extH (cs.map fun p => p.2) H p.2 = some (.ext (TabPhi p.2)) := fun p hp => extH_in (List.mem_map.mpr ⟨p, hp, rfl⟩)
    refine hsp _ a ns hlen hnt ?_ _ fun H' e => ⟨fun b hb => ?_, fun _ => rfl⟩
    · have out : ∀ {u : HO}, H a = some u → (∀ ts, u ≠ .tbl ts) → extH (cs.map fun p => p.2) H a = some u := fun {u} h1 h2 => by
        rw [extH_out fun hb => ?_]
        · exact h1
        · obtain ⟨p, hp, e⟩ := List.mem_map.mp hb
          have := hH p hp
          have e : p.2 = a := e
          rw [e, h1] at this
          cases this
          exact h2 _ rfl
      rcases hS with (h1 | ⟨o, h1⟩) | h1
      · exact .inl (.inl (out h1 fun _ z => by cases z))
      · exact .inl (.inr ⟨o, out h1 fun _ z => by cases z⟩)
      · exact .inr h1
    · obtain ⟨p, hp, rfl⟩ := List.mem_map.mp hb
      exact e _ _ (hnt p hp)
end HE

set_option Elab.async false
set_option linter.all false
set_option maxRecDepth 100000
set_option maxHeartbeats 4000000
namespace LK
open PySem PySem.Spec PyProof.Rows L2 Evl

/-! ### data that == serves -/
def Sh (n : Nat) (d : PyData) : Prop := d.canLay0 = true ∧ d.depth ≤ n
theorem sh_int (i : Int) (n : Nat := 0) : Sh n (.int i) := ⟨by simp [PyData.canLay0], by simp [PyData.depth]⟩
theorem sh_bool (b : Bool) (n : Nat := 0) : Sh n (.bool b) := ⟨by simp [PyData.canLay0], by simp [PyData.depth]⟩
theorem sh_none (n : Nat := 0) : Sh n .none := ⟨by simp [PyData.canLay0], by simp [PyData.depth]⟩
theorem sh_all {n : Nat} : ∀ {ds : List PyData}, (∀ d ∈ ds, Sh n d) → PyData.canLayAll0 ds = true ∧ PyData.depthAll ds ≤ n
  | [], _ => ⟨by simp [PyData.canLayAll0], by simp [PyData.depthAll]⟩
  | d :: ds, h => by
    obtain ⟨h1, h2⟩ := h d List.mem_cons_self
    obtain ⟨h3, h4⟩ := sh_all fun e he => h e (List.mem_cons_of_mem _ he)
    refine ⟨?_, ?_⟩
    · rw [PyData.canLayAll0, h1, h3]
      rfl
    · rw [PyData.depthAll]
      omega
theorem sh_tup {n : Nat} {ds : List PyData} (h : ∀ d ∈ ds, Sh n d) : Sh (n + 1) (.tuple ds) := by
  obtain ⟨h1, h2⟩ := sh_all h
  refine ⟨?_, ?_⟩
  · rw [PyData.canLay0]
    exact h1
  · rw [PyData.depth]
    omega
theorem sh_lst {n : Nat} {ds : List PyData} (h : ∀ d ∈ ds, Sh n d) : Sh (n + 1) (.list ds) := by
  obtain ⟨h1, h2⟩ := sh_all h
  refine ⟨?_, ?_⟩
  · rw [PyData.canLay0]
    exact h1
  · rw [PyData.depth]
    omega
theorem Sh.up {n m : Nat} {d : PyData} (h : Sh n d) (e : n ≤ m) : Sh m d := ⟨h.1, Nat.le_trans h.2 e⟩
theorem Sh.shaped {n : Nat} {d : PyData} (h : Sh n d) (e : n ≤ 64) : SeqAt.shaped d = true := by
  unfold SeqAt.shaped
  rw [h.1, decide_eq_true (Nat.le_trans h.2 e)]
  rfl
theorem Sh.refl {n : Nat} {d : PyData} (h : Sh n d) : PyData.eqv d d = true := SeqAt.eqv_refl d h.1
theorem sh_ints (ns : List Int) : ∀ d ∈ ns.map PyData.int, Sh 0 d := fun d hd => by
  obtain ⟨i, _, rfl⟩ := List.mem_map.mp hd
  exact sh_int i
section
variable {K : PySem.W.Frag} {H H' : Hp}
theorem dp_ints : ∀ ns : List Int, DpAll K H (ns.map V.int) (ns.map PyData.int)
  | [] => .nil
  | n :: r => .cons (.int n) (dp_ints r)
mutual
theorem dp_mono (e : Ex H H') : ∀ {v : V} (d : PyData), Dp K H v d → Dp K H' v d
  | _, .none, h => by cases h; exact .non
  | _, .bool b, h => by cases h; exact .bl b
  | _, .int i, h => by cases h; exact .int i
  | _, .str x, h => by cases h; exact .str x
  | _, .list ds, h => by
    cases h with
    | lst h1 h2 => exact .lst (ex_l e h1) (dpa_mono e ds h2)
  | _, .tuple ds, h => by
    cases h with
    | tup h1 h2 => exact .tup (ex_t e h1) (dpa_mono e ds h2)
  | _, .dict _, h => by cases h
theorem dpa_mono (e : Ex H H') : ∀ {vs : List V} (ds : List PyData), DpAll K H vs ds → DpAll K H' vs ds
  | _, [], h => by cases h; exact .nil
  | _, d :: ds, h => by
    cases h with
    | cons h1 h2 => exact .cons (dp_mono e d h1) (dpa_mono e ds h2)
end
/-- two values of the same data: == True, != False -/
theorem rv_eqD {x y : V} {d : PyData} {n : Nat} (hx : Dp K H x d) (hy : Dp K H y d) (s : Sh n d) (hn : n ≤ 64) : RV (rEqD K) x y H (.bl true) := rv_val fun H1 e Q q =>
  ⟨d, d, dp_mono e d hx, dp_mono e d hy, s.shaped hn, s.shaped hn, by rw [s.refl]; exact q⟩
theorem rv_neD {x y : V} {d : PyData} {n : Nat} (hx : Dp K H x d) (hy : Dp K H y d) (s : Sh n d) (hn : n ≤ 64) : RV (rNeD K) x y H (.bl false) := rv_val fun H1 e Q q =>
  ⟨d, d, dp_mono e d hx, dp_mono e d hy, s.shaped hn, s.shaped hn, by rw [s.refl]; exact q⟩
/-- of any two data -/
theorem rv_neDD {x y : V} {d f : PyData} {n : Nat} (hx : Dp K H x d) (hy : Dp K H y f) (s : Sh n d) (s' : Sh n f) (hn : n ≤ 64) : RV (rNeD K) x y H (.bl (!PyData.eqv d f)) := rv_val fun H1 e Q q =>
  ⟨d, f, dp_mono e d hx, dp_mono e f hy, s.shaped hn, s'.shaped hn, q⟩
theorem rv_eqDD {x y : V} {d f : PyData} {n : Nat} (hx : Dp K H x d) (hy : Dp K H y f) (s : Sh n d) (s' : Sh n f) (hn : n ≤ 64) : RV (rEqD K) x y H (.bl (PyData.eqv d f)) := rv_val fun H1 e Q q =>
  ⟨d, f, dp_mono e d hx, dp_mono e f hy, s.shaped hn, s'.shaped hn, q⟩
theorem rv_ltT {a b : Addr} {ns ms : List Int} (ha : SqT K H a (ns.map V.int)) (hb : SqT K H b (ms.map V.int)) : RV (rLtT K) (.ref a) (.ref b) H (.bl (HT.lexLt ns ms)) := rv_val fun H1 e Q q =>
  ⟨a, b, ns, ms, rfl, rfl, ex_t e ha, ex_t e hb, q⟩
def leV (ns ms : List Int) : Bool := Ob.lexAt (fun j => decide (ns.getD j 0 = ms.getD j 0)) (fun j => decide (ns.getD j 0 ≤ ms.getD j 0)) (decide (ns.length ≤ ms.length)) 0 (min ns.length ms.length)
theorem rv_leT {a b : Addr} {ns ms : List Int} (ha : SqT K H a (ns.map V.int)) (hb : SqT K H b (ms.map V.int)) : RV (rLeT K) (.ref a) (.ref b) H (.bl (leV ns ms)) := rv_val fun H1 e Q q =>
  ⟨a, b, ns, ms, rfl, rfl, ex_t e ha, ex_t e hb, q⟩

/-! ### reading a cell of the script -/
def cellv (ns : List Int) (k : Nat) : Int := ns.getD k 0
theorem cellv_in {ns : List Int} {k : Nat} (hk : k < ns.length) : (ns.map V.int)[k]? = some (.int (cellv ns k)) := by
  rw [List.getElem?_map, List.getElem?_eq_getElem hk]
  unfold cellv
  rw [List.getD_eq_getElem?_getD, List.getElem?_eq_getElem hk]
  rfl
theorem cellv_out {ns : List Int} {k : Nat} (hk : ns.length ≤ k) : cellv ns k = 0 := by
  unfold cellv
  rw [List.getD_eq_getElem?_getD, List.getElem?_eq_none hk]
  rfl
def spCel (K : PySem.W.Frag) : Sp := fun vs H Q _ => ∃ (a : Addr) (ns : List Int) (k : Nat), vs = [.ref a, .int (k : Int)] ∧ SqL K H a (ns.map V.int) ∧ RetV (.int (cellv ns k)) H Q
theorem sv_cell {a : Addr} {ns : List Int} {k : Nat} {z : Int} (h : SqL K H a (ns.map V.int)) (e : z = (k : Int)) : SpV (spCel K) [.ref a, .int z] H (.int (cellv ns k)) := fun H1 e1 Q q E =>
  ⟨a, ns, k, by rw [e], ex_l e1 h, fun H2 e2 => q H2 e2⟩
end
end LK

namespace K53
open PySem PySem.Spec PyProof.Rows L2 Evl LK LT LG LS LQ LX LO LN LP LH LV LD
def top (i : Nat) : Stmt := PySem.Challenge.pw_laminae_k53_open_files.main.body.getD i (.Pass ⟨0, 0, 0, 0⟩)
abbrev sIw : Stmt := top 6
theorem scIw : FnScope ["value"] ["value"] (defScope sIw) := ⟨rfl, rfl, rfl, by decide +kernel, rfl, by decide +kernel, by decide +kernel⟩
abbrev sInit : Stmt := inClass (top 9) 0
theorem scInit : FnScope ["self"] ["self"] (defScope sInit) := ⟨rfl, rfl, rfl, by decide +kernel, rfl, by decide +kernel, by decide +kernel⟩
abbrev sOpf : Stmt := inClass (top 9) 1
theorem scOpf : FnScope ["self", "number"] ["self"] (defScope sOpf) := ⟨rfl, rfl, rfl, by decide +kernel, rfl, by decide +kernel, by decide +kernel⟩
abbrev sAof : Stmt := inClass (top 9) 2
theorem scAof : FnScope ["self", "volume", "inode", "mode", "number"] ["self", "volume", "inode", "mode"] (defScope sAof) := ⟨rfl, rfl, rfl, by decide +kernel, rfl, by decide +kernel, by decide +kernel⟩
abbrev sLup : Stmt := inClass (top 9) 3
theorem scLup : FnScope ["self", "number"] ["self", "number"] (defScope sLup) := ⟨rfl, rfl, rfl, by decide +kernel, rfl, by decide +kernel, by decide +kernel⟩
abbrev sMov : Stmt := inClass (top 9) 4
theorem scMov : FnScope ["self", "number", "position", "volume", "inode", "mode", "_", "references"] ["self", "number", "position"] (defScope sMov) := ⟨rfl, rfl, rfl, by decide +kernel, rfl, by decide +kernel, by decide +kernel⟩
abbrev sAdr : Stmt := inClass (top 9) 5
theorem scAdr : FnScope ["self", "number", "volume", "inode", "mode", "position", "references"] ["self", "number"] (defScope sAdr) := ⟨rfl, rfl, rfl, by decide +kernel, rfl, by decide +kernel, by decide +kernel⟩
abbrev sDrr : Stmt := inClass (top 9) 6
theorem scDrr : FnScope ["self", "number", "volume", "inode", "mode", "position", "references"] ["self", "number"] (defScope sDrr) := ⟨rfl, rfl, rfl, by decide +kernel, rfl, by decide +kernel, by decide +kernel⟩
abbrev sIso : Stmt := inClass (top 9) 10
theorem scIso : FnScope ["self", "volume", "inode", "row"] ["self", "volume", "inode"] (defScope sIso) := ⟨rfl, rfl, rfl, by decide +kernel, rfl, by decide +kernel, by decide +kernel⟩
abbrev sUsv : Stmt := inClass (top 9) 11
theorem scUsv : FnScope ["self", "volume", "row"] ["self", "volume"] (defScope sUsv) := ⟨rfl, rfl, rfl, by decide +kernel, rfl, by decide +kernel, by decide +kernel⟩
abbrev sFnd : Stmt := inClass (top 9) 12
theorem scFnd : FnScope ["self", "number"] ["self", "number"] (defScope sFnd) := ⟨rfl, rfl, rfl, by decide +kernel, rfl, by decide +kernel, by decide +kernel⟩
abbrev sCls_ : Stmt := top 11
theorem scCls_ : FnScope ["error", "found"] ["error"] (defScope sCls_) := ⟨rfl, rfl, rfl, by decide +kernel, rfl, by decide +kernel, by decide +kernel⟩
abbrev sPlay : Stmt := top 12
theorem scPlay : FnScope ["handles", "deed", "number", "position", "error"] ["handles", "deed", "number", "position"] (defScope sPlay) := ⟨rfl, rfl, rfl, by decide +kernel, rfl, by decide +kernel, by decide +kernel⟩
abbrev sLop : Stmt := top 13
theorem scLop : FnScope ["files", "volume", "inode", "number"] ["files", "volume", "inode"] (defScope sLop) := ⟨rfl, rfl, rfl, by decide +kernel, rfl, by decide +kernel, by decide +kernel⟩
abbrev sDue : Stmt := top 14
theorem scDue : FnScope ["files", "deed", "number", "position", "file"] ["files", "deed", "number", "position"] (defScope sDue) := ⟨rfl, rfl, rfl, by decide +kernel, rfl, by decide +kernel, by decide +kernel⟩
abbrev sLst : Stmt := top 15
theorem scLst : FnScope ["files", "number"] ["files"] (defScope sLst) := ⟨rfl, rfl, rfl, by decide +kernel, rfl, by decide +kernel, by decide +kernel⟩
abbrev sShw : Stmt := top 16
theorem scShw : FnScope ["handles", "files", "rows", "number", "actual", "volume", "used", "inode", "known"] ["handles", "files"] (defScope sShw) := ⟨rfl, rfl, rfl, by decide +kernel, rfl, by decide +kernel, by decide +kernel⟩
abbrev sLaw : Stmt := top 17
theorem scLaw : FnScope ["script", "handles", "files", "most", "cell", "deed", "rest", "volume", "inode", "mode", "number", "position", "actual"] ["script"] (defScope sLaw) := ⟨rfl, rfl, rfl, by decide +kernel, rfl, by decide +kernel, by decide +kernel⟩
structure Txt (mg : Str → Option Value) (K : PySem.W.Frag) (C : Addr) : Prop where
  len : mg "len" = none
  range : mg "range" = none
  tuple : mg "tuple" = none
  list : mg "list" = none
  isinstance : mg "isinstance" = none
  int : mg "int" = none
  bool : mg "bool" = none
  any : mg "any" = none
  max : mg "max" = none
  sorted : mg "sorted" = none
  gMAX_CELLS : ∃ t, mg "MAX_CELLS" = some (.int 2048 t)
  cl : Cls K C
  nf : NoAttr K C "_files"
  mgC : mg "Handles" = some (.ref C)
/-! ### values of a known kind -/
inductive Kd (H : Hp) : V → String → Prop
  | non : Kd H .non "NoneType"
  | bl (b : Bool) : Kd H (.bl b) "bool"
  | int (i : Int) : Kd H (.int i) "int"
  | str (z : Str) : Kd H (.str z) "str"
  | lst {a : Addr} {xs : List V} (h : H a = some (.lst xs)) : Kd H (.ref a) "list"
  | tup {a : Addr} {xs : List V} (h : H a = some (.tup xs)) : Kd H (.ref a) "tuple"
theorem Kd.mono {H H' : Hp} {v : V} {n : String} (e : Ex H H') : Kd H v n → Kd H' v n
  | .non => .non
  | .bl b => .bl b
  | .int i => .int i
  | .str z => .str z
  | .lst h => .lst (e _ _ h)
  | .tup h => .tup (e _ _ h)
theorem Kd.ty {K : PySem.W.Frag} {H : Hp} {v : V} {n : String} : Kd H v n → TyOf K H v (.type n)
  | .non => .non
  | .bl b => .bl b
  | .int i => .int i
  | .str z => .str z
  | .lst h => .lst h
  | .tup h => .tup h
theorem Kd.no {H : Hp} {v : V} {n : String} (k : Kd H v n) : ∀ a C dx fs, H a = some (.ins C dx fs) → v ≠ .ref a := fun a C dx fs h e => by
  cases k with
  | lst h2 =>
    cases e
    rw [h] at h2
    cases h2
  | tup h2 =>
    cases e
    rw [h] at h2
    cases h2
  | _ => cases e
def wd : V → Bool
  | .int i => decide (0 ≤ i)
  | _ => false
/-- isinstance(v, int), isinstance(v, bool) -/
def kInt (n : String) : Bool := n == "int" || n == "bool"
theorem kd_int {K : PySem.W.Frag} {H : Hp} {v : V} {n : String} (k : Kd H v n) : PySem.W.kitOne K (.type n) (.type "int") = some (kInt n) := by
  cases k <;> exact kit_ty rfl
theorem kd_bool {K : PySem.W.Frag} {H : Hp} {v : V} {n : String} (k : Kd H v n) : PySem.W.kitOne K (.type n) (.type "bool") = some (n == "bool") := by
  cases k <;> exact kit_ty rfl
theorem kd_list {K : PySem.W.Frag} {H : Hp} {v : V} {n : String} (k : Kd H v n) : PySem.W.kitOne K (.type n) (.type "list") = some (n == "list") := by
  cases k <;> exact kit_ty rfl
theorem kd_tuple {K : PySem.W.Frag} {H : Hp} {v : V} {n : String} (k : Kd H v n) : PySem.W.kitOne K (.type n) (.type "tuple") = some (n == "tuple") := by
  cases k <;> exact kit_ty rfl
theorem kd_str {K : PySem.W.Frag} {H : Hp} {v : V} {n : String} (k : Kd H v n) : PySem.W.kitOne K (.type n) (.type "str") = some (n == "str") := by
  cases k <;> exact kit_ty rfl
section
variable {K : PySem.W.Frag} {σ : L2.St} {H : Hp} {ta tb : TE} {v : V}
theorem ev_isk {n m : String} {b : Bool} (h : Ev ta σ H v) (hn : Ev tb σ H (.ty m)) (k : Kd H v n) (hk : PySem.W.kitOne K (.type n) (.type m) = some b) : Ev (tCB (rIsi K) (tCons ta (tCons tb tNil))) σ H (.bl b) := ev_isi h hn (fun H1 e => .base (k.mono e).ty) hk
end
def spIw : Sp := fun vs H Q _ => ∃ (v : V) (n : String), vs = [v] ∧ Kd H v n ∧ RetV (.bl (wd v)) H Q
theorem sv_iw {v : V} {n : String} {H : Hp} (k : Kd H v n) : SpV spIw [v] H (.bl (wd v)) := fun H1 e Q q E => ⟨v, n, rfl, k.mono e, q⟩

section
variable {P : Program} {w : World} {K : PySem.W.Frag} {mg : Str → Option Value} {base : Heap} {C : Addr}
theorem ok_iw {f : Addr} {fd : FuncData} (F : Fun K "is_word" "is_word" sIw f fd) (T : Txt mg K C) : FnOk P w K mg base CX0 1 f fd ["value"] spIw := by
  refine F.ok scIw (fun vs H Q E h => ?_) (fun cdv A outer s H vs Q E hr h => ?_)
  · obtain ⟨v, n, rfl, _⟩ := h
    rfl
  · obtain ⟨v, n, rfl, k, q⟩ := h
    refine ⟨_, (pss_one (ps_ret (pe_and (pe_callB call_isi (by rfl) T.isinstance (by decide +kernel) (pa_cons (pv 0) (pa_cons (pe_bltn (v := .ty "int") (u := .type "int") (by rfl) T.int (by decide +kernel) rfl) pa_nil))) (pe_and (pe_not (pe_callB call_isi (by rfl) T.isinstance (by decide +kernel) (pa_cons (pv 0) (pa_cons (pe_bltn (v := .ty "bool") (u := .type "bool") (by rfl) T.bool (by decide +kernel) rfl) pa_nil)))) (pe_one (pe_cmpR op_ge (pv 0) pe_int (nomark _))))))), ?_⟩
    have i1 := ev_isk (K := K) (σ := [some v]) (ta := tVar 0) (tb := tC (.ty "int")) (ev_var rfl) ev_c k (kd_int k)
    have i2 := ev_isk (K := K) (σ := [some v]) (ta := tVar 0) (tb := tC (.ty "bool")) (ev_var rfl) ev_c k (kd_bool k)
    cases k with
    | int i => exact s_ret (ev_is (ev_andV i1 (fun _ => ev_andV (ev_notV i2) (fun _ => ev_op (ev_var rfl) ev_c rv_I0))) rfl) fun H1 e1 => q H1 e1
    | bl b => exact s_ret (ev_is (ev_andV (b := false) i1 (fun _ => ev_andV (b := false) (ev_notV i2) (fun h => by cases h))) rfl) fun H1 e1 => q H1 e1
    | non => exact s_ret (ev_is (ev_andV (b := false) i1 (fun h => by cases h)) rfl) fun H1 e1 => q H1 e1
    | str z => exact s_ret (ev_is (ev_andV (b := false) i1 (fun h => by cases h)) rfl) fun H1 e1 => q H1 e1
    | lst h => exact s_ret (ev_is (ev_andV (b := false) i1 (fun h => by cases h)) rfl) fun H1 e1 => q H1 e1
    | tup h => exact s_ret (ev_is (ev_andV (b := false) i1 (fun h => by cases h)) rfl) fun H1 e1 => q H1 e1

end
/-! ### the open files -/
structure Rw where
  vol : Str
  ino : Int
  mode : Str
  pos : Int
  refs : Int
def Rw.v (r : Rw) : List V := [.str r.vol, .int r.ino, .str r.mode, .int r.pos, .int r.refs]
abbrev Fl := List (Int × Addr × Rw)
def kvsOf (fs : Fl) : List (Key × V) := fs.map fun f => (Sum.inl f.1, V.ref f.2.1)
def find (fs : Fl) (n : Int) : Option (Addr × Rw) := (fs.find? fun f => decide (f.1 = n)).map (·.2)
theorem valV_kvs (n : Int) : ∀ fs : Fl, valV (kvsOf fs) (.inl n) = (find fs n).map fun p => V.ref p.1
  | [] => rfl
  | f :: fs => by
    show valV ((Sum.inl f.1, V.ref f.2.1) :: kvsOf fs) (.inl n) = _
    unfold find
    by_cases h : f.1 = n
    · rw [valV_pos (by rw [← h]), List.find?_cons_of_pos (by simpa using h)]
      rfl
    · rw [valV_neg (fun e => h (by cases e; rfl)), List.find?_cons_of_neg (by simpa using h)]
      exact valV_kvs n fs
theorem kvs_len (fs : Fl) : (kvsOf fs).length = fs.length := List.length_map ..
/-- the dict at d: its values are tuples -/
def Rw.Ok (r : Rw) : Prop := PyData.strOk r.vol = true ∧ PyData.strOk r.mode = true
/-- the dict at d, as it stands -/
structure Tt (H : Hp) (d : Addr) (fs : Fl) : Prop where
  d : H d = some (.dK (kvsOf fs))
  t : ∀ f ∈ fs, H f.2.1 = some (.tup f.2.2.v)
  nd : (fs.map (·.1)).Nodup
  l : fs.length ≤ 1000
  ok : ∀ f ∈ fs, f.2.2.Ok
theorem Tt.ex {H H' : Hp} {d : Addr} {fs : Fl} (h : Tt H d fs) (e : Ex H H') : Tt H' d fs := ⟨e _ _ h.d, fun f hf => e _ _ (h.t f hf), h.nd, h.l, h.ok⟩
theorem find_mem {fs : Fl} {n : Int} {p : Addr × Rw} (h : find fs n = some p) : (n, p) ∈ fs := by
  unfold find at h
  obtain ⟨f, hf, rfl⟩ := Option.map_eq_some_iff.mp h
  have h1 := List.mem_of_find?_eq_some hf
  have h2 := List.find?_some hf
  obtain rfl : f.1 = n := by simpa using h2
  exact h1
def Hd (C : Addr) (H : Hp) (p d : Addr) (fs : Fl) : Prop := ∃ dx, H p = some (.ins C dx [(("_files" : Str), .ref d)]) ∧ Tt H d fs ∧ d ≠ p
theorem Hd.ex {C : Addr} {H H' : Hp} {p d : Addr} {fs : Fl} (h : Hd C H p d fs) (e : Ex H H') : Hd C H' p d fs := let ⟨dx, a, b, c⟩ := h; ⟨dx, e _ _ a, b.ex e, c⟩
def setRow (fs : Fl) (n : Int) (t : Addr) (r : Rw) : Fl := fs.map fun f => if f.1 = n then (n, t, r) else f
def dropRow (fs : Fl) (n : Int) : Fl := fs.filter fun f => decide (f.1 ≠ n)
theorem put_set {fs : Fl} {n : Int} {t : Addr} (r : Rw) (h : (find fs n).isSome = true) : putK (kvsOf fs) (.inl n) (.ref t) = kvsOf (setRow fs n t r) := by
  unfold putK
  rw [valV_any, valV_kvs, Option.isSome_map, h, if_pos rfl]
  unfold kvsOf setRow
  rw [List.map_map, List.map_map]
  refine List.map_congr_left fun f _ => ?_
  show (if (Sum.inl f.1 : Key) = Sum.inl n then _ else _) = _
  by_cases hf : f.1 = n
  · rw [if_pos (by rw [hf])]
    show _ = ((Sum.inl (if f.1 = n then (n, t, r) else f).1 : Key), V.ref (if f.1 = n then (n, t, r) else f).2.1)
    rw [if_pos hf]
    show ((Sum.inl f.1 : Key), V.ref t) = ((Sum.inl n : Key), V.ref t)
    rw [hf]
  · rw [if_neg (fun e => hf (by cases e; rfl))]
    show _ = ((Sum.inl (if f.1 = n then (n, t, r) else f).1 : Key), V.ref (if f.1 = n then (n, t, r) else f).2.1)
    rw [if_neg hf]
theorem drop_row (fs : Fl) (n : Int) : dropK (kvsOf fs) (.inl n) = kvsOf (dropRow fs n) := by
  unfold dropK kvsOf dropRow
  rw [List.filter_map]
  congr 1
  refine List.filter_congr fun f _ => ?_
  show decide ((Sum.inl f.1 : Key) ≠ Sum.inl n) = decide (f.1 ≠ n)
  rw [decide_eq_decide]
  exact ⟨fun h e => h (by rw [e]), fun h e => h (by cases e; rfl)⟩
theorem set_keys (fs : Fl) (n : Int) (t : Addr) (r : Rw) : (setRow fs n t r).map (·.1) = fs.map (·.1) := by
  unfold setRow
  rw [List.map_map]
  refine List.map_congr_left fun f _ => ?_
  show (if f.1 = n then (n, t, r) else f).1 = f.1
  by_cases hf : f.1 = n
  · rw [if_pos hf, hf]
  · rw [if_neg hf]
/-- a row is replaced by a new tuple -/
theorem Tt.set {H H1 : Hp} {d t : Addr} {fs : Fl} {n : Int} {r : Rw} (h : Tt H d fs) (e : Ex H H1) (hf : (find fs n).isSome = true) (ht : H1 t = some (.tup r.v)) (ho : r.Ok) : Tt (upd H1 d (.dK (putK (kvsOf fs) (.inl n) (.ref t)))) d (setRow fs n t r) := by
  have hd := e _ _ h.d
  have ne : ∀ {x : Addr} {xs : List V}, H1 x = some (.tup xs) → x ≠ d := fun hx z => by rw [z, hd] at hx; cases hx
  refine ⟨by rw [upd_same, put_set r hf], fun f hf => ?_, by rw [set_keys]; exact h.nd, by unfold setRow; rw [List.length_map]; exact h.l, fun f hf => by
    unfold setRow at hf
    obtain ⟨g, hg, rfl⟩ := List.mem_map.mp hf
    by_cases hn : g.1 = n
    · rw [if_pos hn]
      exact ho
    · rw [if_neg hn]
      exact h.ok g hg⟩
  unfold setRow at hf
  obtain ⟨g, hg, rfl⟩ := List.mem_map.mp hf
  by_cases hn : g.1 = n
  · rw [if_pos hn, upd_ne (ne ht)]
    exact ht
  · rw [if_neg hn, upd_ne (ne (e _ _ (h.t g hg)))]
    exact e _ _ (h.t g hg)
theorem Tt.drop {H H1 : Hp} {d : Addr} {fs : Fl} {n : Int} (h : Tt H d fs) (e : Ex H H1) : Tt (upd H1 d (.dK (dropK (kvsOf fs) (.inl n)))) d (dropRow fs n) := by
  have hd := e _ _ h.d
  refine ⟨by rw [upd_same, drop_row], fun f hf => ?_, ?_, Nat.le_trans (List.length_filter_le _ _) h.l, fun f hf => h.ok f (List.mem_filter.mp hf).1⟩
  · have hm := (List.mem_filter.mp hf).1
    have ht := e _ _ (h.t f hm)
    rw [upd_ne (fun z => by rw [z, hd] at ht; cases ht)]
    exact ht
  · exact (List.filter_sublist.map _).nodup h.nd
theorem Tt.add {H H1 : Hp} {d t : Addr} {fs : Fl} {n : Int} {r : Rw} (h : Tt H d fs) (e : Ex H H1) (hf : find fs n = none) (ht : H1 t = some (.tup r.v)) (hl : fs.length < 1000) (ho : r.Ok) : Tt (upd H1 d (.dK (putK (kvsOf fs) (.inl n) (.ref t)))) d (fs ++ [(n, t, r)]) := by
  have hd := e _ _ h.d
  have ne : ∀ {x : Addr} {xs : List V}, H1 x = some (.tup xs) → x ≠ d := fun hx z => by rw [z, hd] at hx; cases hx
  refine ⟨?_, fun f hf => ?_, ?_, by rw [List.length_append, List.length_singleton]; omega, fun f hf => by
    rcases List.mem_append.mp hf with hm | hm
    · exact h.ok f hm
    · rw [List.mem_singleton.mp hm]
      exact ho⟩
  · rw [upd_same, put_keys (by rw [valV_kvs, hf]; rfl)]
    unfold kvsOf
    rw [List.map_append]
    rfl
  · rcases List.mem_append.mp hf with hm | hm
    · rw [upd_ne (ne (e _ _ (h.t f hm)))]
      exact e _ _ (h.t f hm)
    · rw [List.mem_singleton.mp hm, upd_ne (ne ht)]
      exact ht
  · rw [List.map_append, List.nodup_append]
    refine ⟨h.nd, by simp, fun a ha b hb => ?_⟩
    obtain ⟨f, hfm, rfl⟩ := List.mem_map.mp ha
    obtain rfl : b = n := by simpa using hb
    intro hfn
    unfold find at hf
    have := List.find?_eq_none.mp (by
      cases q : fs.find? fun f => decide (f.1 = b) with
      | none => rfl
      | some x => rw [q] at hf; cases hf) f hfm
    exact this (by simpa using hfn)
end K53

set_option Elab.async false
set_option linter.all false
set_option maxRecDepth 100000
set_option maxHeartbeats 4000000
namespace K53
open PySem PySem.Spec PyProof.Rows L2 Evl LK LT LG LS LQ LX LO LN LP LH LV LD
def spInit (C : Addr) : Sp := fun vs H Q _ => ∃ p dx, vs = [.ref p] ∧ H p = some (.ins C dx []) ∧ ∀ H1, (∀ a o, H a = some o → a ≠ p → H1 a = some o) → ∀ d, H d = none → Hd C H1 p d [] → Q .non H1
def spFnd (C CH : Addr) : Sp := fun vs H Q E => ∃ p d fs n, vs = [.ref p, .int n] ∧ Hd C H p d fs ∧ (∀ t r, find fs n = some (t, r) → RetV (.ref t) H Q) ∧ (find fs n = none → ∀ H1, Ex H H1 → E (.ref CH) none H1)
def isO (fs : Fl) (v : Str) (i : Int) : Bool := fs.any fun f => decide (f.2.2.vol = v) && decide (f.2.2.ino = i)
def isU (fs : Fl) (v : Str) : Bool := fs.any fun f => decide (f.2.2.vol = v)
def spIso (C Pi : Addr) : Sp := fun vs H Q _ => ∃ p d fs v i, vs = [.ref p, .str v, .int i] ∧ PyData.strOk v = true ∧ Hd C H p d fs ∧ Tab H Pi ∧ RetV (.bl (isO fs v i)) H Q
def spUsv (C Pu : Addr) : Sp := fun vs H Q _ => ∃ p d fs v, vs = [.ref p, .str v] ∧ Hd C H p d fs ∧ Tab H Pu ∧ RetV (.bl (isU fs v)) H Q
section
variable {K : PySem.W.Frag} {σ : L2.St} {H : Hp} {ta te : TE} {t : TA} {tz : TS} {D : Ends} {p C dx : Addr} {fs : List (Str × V)} {m : Str}
theorem s_fldD (ha : Ev ta σ H (.ref p)) (hi : H p = some (.ins C dx fs)) (c : Cls K C) (n : NoAttr K C m) (hz : fs.length < 1000) (k : ∀ d H1, H d = none → Ex H H1 → H1 d = some (.dK []) → D.nx σ (upd H1 p (.ins C dx (putF m (.ref d) fs)))) : sFld K ta tDNewK m D σ H := fun d hd => by
  have e := Ex.new (o := .dK []) hd
  exact ha _ e _ fun H2 e2 => ⟨p, C, dx, fs, rfl, e2 _ _ (e _ _ hi), c, n, hz, k d H2 hd (e.trans e2) (e2 _ _ upd_same)⟩
theorem q_m5 {sp : Sp} {vs : List V} {E : XK} {i1 i2 i3 i4 i5 : Nat} {x1 x2 x3 x4 x5 : V} (ha : Ev ta σ H (.ref p)) (hi : H p = some (.ins C dx fs)) (hl : fs.lookup m = none) (ht : EvA t σ H vs) (k : ∀ H1, Ex H H1 → sp (.ref p :: vs) H1 (fun v H2 => ∃ q, v = .ref q ∧ SqT K H2 q [x1, x2, x3, x4, x5] ∧ tz D (((((σ.set i1 (some x1)).set i2 (some x2)).set i3 (some x3)).set i4 (some x4)).set i5 (some x5)) H2) E) (mono : ∀ vs H1 Q Q', (∀ v H2, Q v H2 → Q' v H2) → sp vs H1 Q E → sp vs H1 Q' E) : tSeq (tAsg (tMeth C m sp [] E ta t) (gTup K 5 (gCons (gName i1) (gCons (gName i2) (gCons (gName i3) (gCons (gName i4) (gCons (gName i5) gNil))))))) tz D σ H :=
  m_run ha hi hl ht fun H1 e1 => mono _ _ _ _ (fun v H2 ⟨q, e, h, hk⟩ => ⟨q, [x1, x2, x3, x4, x5], e, h, rfl, x1, _, rfl, x2, _, rfl, x3, _, rfl, x4, _, rfl, x5, [], rfl, rfl, hk⟩) (k H1 e1)
end
theorem anyF_list {α : Type} (fs : List α) (g : α → Bool) (f : Nat → Bool) (h : ∀ i x, fs[i]? = some x → f i = g x) : anyF fs.length f = fs.any g := by
  unfold anyF
  rw [Bool.eq_iff_iff, List.any_eq_true, List.any_eq_true]
  constructor
  · rintro ⟨i, hi, hf⟩
    have hl : i < fs.length := by simpa using hi
    exact ⟨fs[i], List.getElem_mem hl, by rw [← h i _ (List.getElem?_eq_getElem hl)]; exact hf⟩
  · rintro ⟨x, hx, hg⟩
    obtain ⟨i, hi⟩ := List.mem_iff_getElem?.mp hx
    exact ⟨i, by simpa using (List.getElem?_eq_some_iff.mp hi).1, by rw [h i x hi]; exact hg⟩
section
variable {P : Program} {w : World} {K : PySem.W.Frag} {mg : Str → Option Value} {base : Heap} {C CN CH Pi Pu : Addr}
theorem ok_init {f : Addr} {fd : FuncData} (F : Fun K "__init__" "Handles.__init__" sInit f fd) (T : Txt mg K C) : FnOk P w K mg base CX0 1 f fd ["self"] (spInit C) := by
  refine F.ok scInit (fun vs H Q E h => ?_) (fun cdv A outer s H vs Q E hr h => ?_)
  · obtain ⟨p, dx, rfl, _⟩ := h
    rfl
  · obtain ⟨p, dx, rfl, ho, q⟩ := h
    refine ⟨_, (pss_one (ps_fld (pv 0) pe_dnewK rfl)), ?_⟩
    refine s_fldD (ev_var rfl) ho T.cl T.nf (by show 0 < 1000; decide) fun d H1 hd e1 h1 => ?_
    have hdp : d ≠ p := fun e => by rw [e, ho] at hd; cases hd
    exact q _ (fun a o h n => by rw [upd_ne n]; exact e1 _ _ h) d hd ⟨dx, upd_same, ⟨by rw [upd_ne hdp]; exact h1, fun f hf => (by cases hf), List.nodup_nil, Nat.zero_le _, fun f hf => (by cases hf)⟩, hdp⟩
theorem ok_fnd {f : Addr} {fd : FuncData} (F : Fun K "_found" "Handles._found" sFnd f fd) (T : Txt mg K C) (XH : Xc K mg "BadHandle" CH) : FnOk P w K mg base (L2.CX P w) 1 f fd ["self", "number"] (spFnd C CH) := by
  refine F.okX scFnd (fun vs H Q E h => ?_) (fun cdv A outer s H vs Q E hr h => ?_)
  · obtain ⟨p, d, fs, n, rfl, _⟩ := h
    rfl
  · obtain ⟨p, d, fs, n, rfl, ⟨dx, ho, hT, hdp⟩, q, qE⟩ := h
    refine ⟨_, (pss_cons (ps_if (pt_cmp (pc_dnotin (hu_of hr) (pv 1) (pe_fld (pv 0) rfl))) (pss_one (ps_raise0 rfl XH (takes_of rfl rfl rfl rfl) (by rfl))) pss_nil)
      (pss_one (ps_ret (pe_dget (hu_of hr) (pe_fld (pv 0) rfl) (pv 1) (fun _ _ => rfl))))), ?_⟩
    have fl : ∀ {B : Hp} {σ : L2.St}, Ex H B → σ[0]? = some (some (.ref p)) → Ev (tFld K (tVar 0) "_files") σ B (.ref d) := fun e h => ev_fld (ev_var h) (e _ _ ho) T.cl T.nf rfl
    refine q_when (et_B (ev_dNi (ev_var rfl) (fl (Ex.refl _) rfl) hT.d)) (fun hb H1 e1 => qE ?_ H1 e1) (fun hb H1 e1 => ?_)
    · rw [valV_kvs] at hb
      cases hf : find fs n with
      | none => rfl
      | some p => rw [hf] at hb; cases hb
    · rw [valV_kvs] at hb
      cases hf : find fs n with
      | none => rw [hf] at hb; cases hb
      | some tr => exact s_ret (ev_dget (fl e1 rfl) (ev_var rfl) (e1 _ _ hT.d) (by rw [valV_kvs, hf]; rfl)) fun H2 e2 => q tr.1 tr.2 hf H2 (e1.trans e2)
theorem ok_usv {f c : Addr} {fd : FuncData} (F : FunC K "uses_volume" "Handles.uses_volume" sUsv f fd c) (TB : LamX.TabB base mg c Pu) (T : Txt mg K C) : FnOk P w K mg base CX0 3 f fd ["self", "volume"] (spUsv C Pu) := by
  refine F.ok scUsv (fun vs H Q E h => ?_) (fun A outer s H vs Q E hr h => ?_)
  · obtain ⟨p, d, fs, v, rfl, _⟩ := h
    rfl
  · obtain ⟨p, d, fs, v, rfl, ⟨dx, ho, hT, hdp⟩, hP, q⟩ := h
    refine ⟨_, (pss_one (ps_ret (pe_lock (LH.pe_gen (own := [("row", 2)]) (g := (gName 2)) (b := "any") (by first | rfl | decide +kernel) (fun _ _ _ _ _ _ _ _ ok R => LH.call_any_rdy ok R) hr scUsv.nd (by rfl) T.any TB rfl ⟨rfl, by decide +kernel, rfl⟩ (blkOk_by (own := [("row", 2)]) (N := ["self", "volume", "row"]) (sc := defScope sUsv) (by decide +kernel)) (pi_values (pe_fld (pv 0) rfl)) (fun _ => rfl) (fun _ _ _ _ _ _ _ => pg_name (i := 2) scUsv.nd rfl (Or.inl rfl)) (fun _ _ _ _ _ _ hr => (pe_cmpR op_eq (pe_ix (r := rIxT K) ix_tup (pv 2) pe_int (fun _ _ => rfl)) (pv 1) (nomark _))))))), ?_⟩
    have hPd : Pu ≠ d := fun e => by
      have h1 : H Pu = some (.ext (LT.TabPhi Pu)) := hP
      rw [e, hT.d] at h1
      cases h1
    refine s_ret (ev_is (ev_gxV (kvs := kvsOf fs) hT.d (fun od H1 e1 => ev_fld (ev_var rfl) (by rw [upd_ne hdp.symm]; exact e1 _ _ ho) T.cl T.nf rfl) hP hPd (ok_any (fun i => decide ((fs.getD i (0, 0, ⟨"", 0, "", 0, 0⟩)).2.2.vol = v))) (fun _ => rfl) (fun i k x od H1 H2 e1 e2 hx => ?_)) (congrArg V.bl ?_)) q
    · unfold kvsOf at hx
      rw [List.getElem?_map] at hx
      obtain ⟨g, hg, e⟩ := Option.map_eq_some_iff.mp hx
      obtain ⟨rfl, rfl⟩ := Prod.mk.inj e
      have ht := hT.t g (List.mem_of_getElem? hg)
      have htd : g.2.1 ≠ d := fun e => by rw [e, hT.d] at ht; cases ht
      rw [show fs.getD i (0, 0, ⟨"", 0, "", 0, 0⟩) = g by rw [List.getD_eq_getElem?_getD, hg]; rfl]
      exact ev_is (ev_op (ev_op (ev_var rfl) ev_c (rv_ixT (st_of (e2 _ _ (by rw [upd_ne htd]; exact e1 _ _ ht))) (atI_nat (j := 0) rfl))) (ev_var rfl) (rv_eq rfl)) (congrArg V.bl (by simp))
    · rw [kvs_len]
      exact anyF_list fs _ _ fun i x hx => by rw [List.getD_eq_getElem?_getD, hx]; rfl
end

end K53

set_option Elab.async false
set_option linter.all false
set_option maxRecDepth 100000
set_option maxHeartbeats 4000000
namespace K53
open PySem PySem.Spec PyProof.Rows L2 Evl LK LT LG LS LQ LX LO LN LP LH LV LD
theorem fnd_mono {C CH : Addr} {vs : List V} {H : Hp} {Q Q' : VK} {E : XK} (h : ∀ v H2, Q v H2 → Q' v H2) : spFnd C CH vs H Q E → spFnd C CH vs H Q' E := fun ⟨p, d, fs, n, e, hd, h1, h2⟩ => ⟨p, d, fs, n, e, hd, fun t r hf H2 e2 => h _ _ (h1 t r hf H2 e2), h2⟩
def spLup (C CH : Addr) : Sp := fun vs H Q E => ∃ p d fs n, vs = [.ref p, .int n] ∧ Hd C H p d fs ∧ (∀ t r, find fs n = some (t, r) → ∀ u H1, H u = none → Ex H H1 → H1 u = some (.tup [.str r.vol, .int r.ino, .str r.mode, .int r.pos]) → Q (.ref u) H1) ∧ (find fs n = none → ∀ H1, Ex H H1 → E (.ref CH) none H1)
def spMov (C CH CN : Addr) : Sp := fun vs H Q E => ∃ p d fs n z, vs = [.ref p, .int n, .int z] ∧ Hd C H p d fs ∧ (find fs n = none → ∀ H1, Ex H H1 → E (.ref CH) none H1) ∧
  (∀ t r, find fs n = some (t, r) → (z < 0 ∨ z > 2048) → ∀ H1, Ex H H1 → E (.ref CN) none H1) ∧ (∀ t r, find fs n = some (t, r) → 0 ≤ z → z ≤ 2048 → ∀ t' H1, H t' = none → Bx d H H1 → Hd C H1 p d (setRow fs n t' { r with pos := z }) → Q .non H1)
def spAdr (C CH : Addr) : Sp := fun vs H Q E => ∃ p d fs n, vs = [.ref p, .int n] ∧ Hd C H p d fs ∧ (find fs n = none → ∀ H1, Ex H H1 → E (.ref CH) none H1) ∧ (∀ t r, find fs n = some (t, r) → ∀ t' H1, H t' = none → Bx d H H1 → Hd C H1 p d (setRow fs n t' { r with refs := r.refs + 1 }) → Q .non H1)
def spDrr (C CH Pi : Addr) : Sp := fun vs H Q E => ∃ p d fs n, vs = [.ref p, .int n] ∧ Hd C H p d fs ∧ Tab H Pi ∧ (find fs n = none → ∀ H1, Ex H H1 → E (.ref CH) none H1) ∧
  (∀ t r, find fs n = some (t, r) → r.refs > 1 → ∀ t' H1, H t' = none → Bx d H H1 → Hd C H1 p d (setRow fs n t' { r with refs := r.refs - 1 }) → Q .non H1) ∧
  (∀ t r, find fs n = some (t, r) → ¬ r.refs > 1 → isO (dropRow fs n) r.vol r.ino = true → ∀ H1, Bx d H H1 → Hd C H1 p d (dropRow fs n) → Q .non H1) ∧
  (∀ t r, find fs n = some (t, r) → ¬ r.refs > 1 → isO (dropRow fs n) r.vol r.ino = false → ∀ u H1, H u = none → Bx d H H1 → Hd C H1 p d (dropRow fs n) → H1 u = some (.tup [.str r.vol, .int r.ino]) → Q (.ref u) H1)
section
variable {K : PySem.W.Frag} {σ : L2.St} {H : Hp} {te : TE} {tl th : TO} {a : Addr} {xs : List V} {lo hi : Option Int}
theorem eu_sl (h : Ev te σ H (.ref a)) (h1 : EvO tl σ H lo) (h2 : EvO th σ H hi) (hs : SqT K H a xs) (hn : ¬ (HT.sIx xs.length 0 lo = 0 ∧ HT.sIx xs.length xs.length hi = xs.length)) : EvU (tSl (rSlT K) te tl th) σ H (cutV xs lo hi) := fun H1 e Q q =>
  h H1 e _ fun H2 e2 => h1 H2 (e.trans e2) _ fun H3 e3 => h2 H3 ((e.trans e2).trans e3) _ fun H4 e4 => ⟨a, xs, rfl, ex_t (((e.trans e2).trans e3).trans e4) hs, hn, fun p hp => q p _ (fresh_back ((e2.trans e3).trans e4) hp) (((e2.trans e3).trans e4).trans (Ex.new hp)) upd_same⟩
end
theorem Hd.back {C : Addr} {H H' : Hp} {p d : Addr} {fs fs' : Fl} (h : Hd C H p d fs) (e : Bx d H H') (t : Tt H' d fs') : Hd C H' p d fs' := let ⟨dx, a, _, c⟩ := h; ⟨dx, e _ _ c.symm a, t, c⟩
section
variable {P : Program} {w : World} {K : PySem.W.Frag} {mg : Str → Option Value} {base : Heap} {C CN CH Pi Pu : Addr}
theorem ok_lup {f f1 : Addr} {fd fd1 : FuncData} (F : Fun K "look_up" "Handles.look_up" sLup f fd) (Gfound : FnOk P w K mg base (L2.CX P w) 1 f1 fd1 ["self", "number"] (spFnd C CH)) (bfound : Binds K fd1 ["self", "number"] []) (mfound : Meth K C "_found" f1) (T : Txt mg K C) : FnOk P w K mg base (L2.CX P w) 2 f fd ["self", "number"] (spLup C CH) := by
  refine F.okX scLup (fun vs H Q E h => ?_) (fun cdv A outer s H vs Q E hr h => ?_)
  · obtain ⟨p, d, fs, n, rfl, _⟩ := h
    rfl
  · obtain ⟨p, d, fs, n, rfl, hh, q, qE⟩ := h
    obtain ⟨dx, ho, hT, hdp⟩ := id hh
    refine ⟨_, (pss_one (ps_ret (pe_slice sl_tup (pe_meth (pv 0) T.cl mfound Gfound (hr.mono (by decide)) bfound .nil (pass_own (takes_of rfl rfl rfl rfl)) (pa_cons (pv 1) pa_nil)) po_none (po_some pe_int)))), ?_⟩
    refine m_run (ev_var rfl) ho rfl (ea_cons (ev_var rfl) ea_nil) fun H1 e1 => ⟨p, d, fs, n, rfl, hh.ex e1, fun t r hf H2 e2 => ?_, fun hf H2 e2 => qE hf H2 (e1.trans e2)⟩
    have ht := (e1.trans e2) _ _ (hT.t _ (find_mem hf))
    refine ⟨4, rfl, t, r.v, rfl, st_of ht, (by show ¬ (HT.sIx 5 0 none = 0 ∧ HT.sIx 5 5 (some 4) = 5); decide), fun u hu => ?_⟩
    exact q t r hf u _ (fresh_back (e1.trans e2) hu) ((e1.trans e2).trans (Ex.new hu)) (by rw [upd_same, show cutV r.v none (some 4) = r.v.take 4 from cut_lo r.v 4]; rfl)
theorem ok_adr {f f1 : Addr} {fd fd1 : FuncData} (F : Fun K "add_reference" "Handles.add_reference" sAdr f fd) (Gfound : FnOk P w K mg base (L2.CX P w) 1 f1 fd1 ["self", "number"] (spFnd C CH)) (bfound : Binds K fd1 ["self", "number"] []) (mfound : Meth K C "_found" f1) (T : Txt mg K C) : FnOk P w K mg base (L2.CX P w) 2 f fd ["self", "number"] (spAdr C CH) := by
  refine F.okX scAdr (fun vs H Q E h => ?_) (fun cdv A outer s H vs Q E hr h => ?_)
  · obtain ⟨p, d, fs, n, rfl, _⟩ := h
    rfl
  · obtain ⟨p, d, fs, n, rfl, hh, qE, q⟩ := h
    obtain ⟨dx, ho, hT, hdp⟩ := id hh
    refine ⟨_, (pss_cons (ps_asg (pe_meth (pv 0) T.cl mfound Gfound (hr.mono (by decide)) bfound .nil (pass_own (takes_of rfl rfl rfl rfl)) (pa_cons (pv 1) pa_nil)) (pg_tup (by rfl) (pgs_cons (pg_name (i := 2) scAdr.nd rfl (Or.inl rfl)) (pgs_cons (pg_name (i := 3) scAdr.nd rfl (Or.inl rfl)) (pgs_cons (pg_name (i := 4) scAdr.nd rfl (Or.inl rfl)) (pgs_cons (pg_name (i := 5) scAdr.nd rfl (Or.inl rfl)) (pgs_cons (pg_name (i := 6) scAdr.nd rfl (Or.inl rfl)) pgs_nil)))))))
      (pss_one (ps_dput (hu_of hr) (pe_fld (pv 0) rfl) (pv 1) (pe_tup (pa_cons (pv 2) (pa_cons (pv 3) (pa_cons (pv 4) (pa_cons (pv 5) (pa_cons (pe_op op_add (pv 6) pe_int) pa_nil)))))) (by rfl)))), ?_⟩
    refine m_run (ev_var rfl) ho rfl (ea_cons (ev_var rfl) ea_nil) fun H1 e1 => ⟨p, d, fs, n, rfl, hh.ex e1, fun t r hf H2 e2 => ?_, fun hf H2 e2 => qE hf H2 (e1.trans e2)⟩
    have e12 := e1.trans e2
    have ht := e12 _ _ (hT.t _ (find_mem hf))
    refine ⟨t, r.v, rfl, st_of ht, rfl, _, _, rfl, _, _, rfl, _, _, rfl, _, _, rfl, _, _, rfl, rfl, ?_⟩
    refine s_dputU (xs := ({ r with refs := r.refs + 1 } : Rw).v) (eu_tup (ea_cons (ev_var rfl) (ea_cons (ev_var rfl) (ea_cons (ev_var rfl) (ea_cons (ev_var rfl) (ea_cons (ev_op (ev_var rfl) ev_c rv_I0) ea_nil))))) (Nat.le_of_ble_eq_true rfl)) (ev_fld (ev_var rfl) (e12 _ _ ho) T.cl T.nf rfl) (ev_var rfl) (e12 _ _ hT.d) (by rw [kvs_len]; have := hT.l; omega) fun u H3 hu e3 h3 => ?_
    have b3 : Bx d H (upd H3 d (.dK (putK (kvsOf fs) (.inl n) (.ref u)))) := (Bx.of (e12.trans e3)).up
    exact q t r hf u _ (fresh_back e12 hu) b3 (hh.back b3 (hT.set (e12.trans e3) (by rw [hf]; rfl) h3 (hT.ok _ (find_mem hf))))
theorem ok_mov {f f1 fW : Addr} {fd fd1 fdW : FuncData} (F : Fun K "move_to" "Handles.move_to" sMov f fd) (Gfound : FnOk P w K mg base (L2.CX P w) 1 f1 fd1 ["self", "number"] (spFnd C CH)) (bfound : Binds K fd1 ["self", "number"] []) (mfound : Meth K C "_found" f1) (FW : Fun K "is_word" "is_word" sIw fW fdW) (bW : Binds K fdW ["value"] []) (gW : mg "is_word" = some (.ref fW)) (T : Txt mg K C) (XN : Xc K mg "NotValid" CN) : FnOk P w K mg base (L2.CX P w) 2 f fd ["self", "number", "position"] (spMov C CH CN) := by
  have GW : FnOk P w K mg base CX0 1 fW fdW ["value"] spIw := ok_iw FW T
  obtain ⟨_, gMAX_CELLS⟩ := T.gMAX_CELLS
  refine F.okX scMov (fun vs H Q E h => ?_) (fun cdv A outer s H vs Q E hr h => ?_)
  · obtain ⟨p, d, fs, n, z, rfl, _⟩ := h
    rfl
  · obtain ⟨p, d, fs, n, z, rfl, hh, qE, qN, q⟩ := h
    obtain ⟨dx, ho, hT, hdp⟩ := id hh
    refine ⟨_, (pss_cons (ps_asg (pe_meth (pv 0) T.cl mfound Gfound (hr.mono (by decide)) bfound .nil (pass_own (takes_of rfl rfl rfl rfl)) (pa_cons (pv 1) pa_nil)) (pg_tup (by rfl) (pgs_cons (pg_name (i := 3) scMov.nd rfl (Or.inl rfl)) (pgs_cons (pg_name (i := 4) scMov.nd rfl (Or.inl rfl)) (pgs_cons (pg_name (i := 5) scMov.nd rfl (Or.inl rfl)) (pgs_cons (pg_name (i := 6) scMov.nd rfl (Or.inl rfl)) (pgs_cons (pg_name (i := 7) scMov.nd rfl (Or.inl rfl)) pgs_nil)))))))
      (pss_cons (ps_if (PW.pt (pw_or (pt_not (pt_val (pe_call GW (hr.mono (by decide)) (by rfl) gW FW.kp bW .nil pass0 (pa_cons (pv 2) pa_nil)))) (pw_or1 (pt_cmpR op_gt (pv 2) (pe_glob (v := .int 2048) rfl gMAX_CELLS ⟨_, rfl⟩) (nomark _))))) (pss_one (ps_raise0 rfl XN (takes_of rfl rfl rfl rfl) (by rfl))) pss_nil)
      (pss_one (ps_dput (hu_of hr) (pe_fld (pv 0) rfl) (pv 1) (pe_tup (pa_cons (pv 3) (pa_cons (pv 4) (pa_cons (pv 5) (pa_cons (pv 2) (pa_cons (pv 7) pa_nil)))))) (by rfl))))), ?_⟩
    refine m_run (ev_var rfl) ho rfl (ea_cons (ev_var rfl) ea_nil) fun H1 e1 => ⟨p, d, fs, n, rfl, hh.ex e1, fun t r hf H2 e2 => ?_, fun hf H2 e2 => qE hf H2 (e1.trans e2)⟩
    have e12 := e1.trans e2
    have ht := e12 _ _ (hT.t _ (find_mem hf))
    refine ⟨t, r.v, rfl, st_of ht, rfl, _, _, rfl, _, _, rfl, _, _, rfl, _, _, rfl, _, _, rfl, rfl, ?_⟩
    refine (q_when (D := { nx := fun x H' => Q V.non H', rt := Q }) (b := !decide (0 ≤ z) || decide (z > 2048)) (et_or (et_not (et_B (ev_call (vs := [.int z]) (ea_cons (ev_var rfl) ea_nil) (sv_iw (.int z))))) (fun _ => et_test (ev_op (ev_var rfl) ev_c rv_I0))) ?_ ?_ : tSeq (tIfS (tOr (tNot (tB (tCall spIw [] E0 (tCons (tVar 2) tNil)))) (tTest (tOp (rI0 fun i j => V.bl (decide (j < i))) (tVar 2) (tC (V.int 2048))))) (fun x σ H => E (Value.ref CN) none H) tNext) _ { nx := fun x H' => Q V.non H', rt := Q } [some (.ref p), some (.int n), some (.int z), some (.str r.vol), some (.int r.ino), some (.str r.mode), some (.int r.pos), some (.int r.refs)] H2)
    · intro hb H3 e3
      refine qN t r hf ?_ H3 (e12.trans e3)
      have : (!decide (0 ≤ z) || decide (z > 2048)) = true := hb
      simp at this
      omega
    · intro hb H3 e3
      have hz : (!decide (0 ≤ z) || decide (z > 2048)) = false := hb
      have hz' : 0 ≤ z ∧ z ≤ 2048 := by
        simp at hz
        omega
      have e13 := e12.trans e3
      refine s_dputU (xs := ({ r with pos := z } : Rw).v) (eu_tup (ea_cons (ev_var rfl) (ea_cons (ev_var rfl) (ea_cons (ev_var rfl) (ea_cons (ev_var rfl) (ea_cons (ev_var rfl) ea_nil))))) (Nat.le_of_ble_eq_true rfl)) (ev_fld (ev_var rfl) (e13 _ _ ho) T.cl T.nf rfl) (ev_var rfl) (e13 _ _ hT.d) (by rw [kvs_len]; have := hT.l; omega) fun u H4 hu e4 h4 => ?_
      have b4 : Bx d H (upd H4 d (.dK (putK (kvsOf fs) (.inl n) (.ref u)))) := (Bx.of (e13.trans e4)).up
      exact q t r hf hz'.1 hz'.2 u _ (fresh_back e13 hu) b4 (hh.back b4 (hT.set (e13.trans e4) (by rw [hf]; rfl) h4 (hT.ok _ (find_mem hf))))
theorem sh_str {z : Str} (h : PyData.strOk z = true) (n : Nat := 0) : Sh n (.str z) := ⟨by simp [PyData.canLay0, h], by simp [PyData.depth]⟩
theorem eqv_vi (a v : Str) (b i : Int) : PyData.eqv (.tuple [.str a, .int b]) (.tuple [.str v, .int i]) = (decide (a = v) && decide (b = i)) := by
  simp only [PyData.eqv, PyData.eqvAll, Bool.and_true]
  by_cases h1 : a = v <;> by_cases h2 : b = i <;> simp [h1, h2]
theorem ok_iso {f c : Addr} {fd : FuncData} (F : FunC K "is_open" "Handles.is_open" sIso f fd c) (TB : LamX.TabB base mg c Pi) (T : Txt mg K C) : FnOk P w K mg base CX0 3 f fd ["self", "volume", "inode"] (spIso C Pi) := by
  refine F.ok scIso (fun vs H Q E h => ?_) (fun A outer s H vs Q E hr h => ?_)
  · obtain ⟨p, d, fs, v, i, rfl, _⟩ := h
    rfl
  · obtain ⟨p, d, fs, v, i, rfl, hvo, ⟨dx, ho, hT, hdp⟩, hP, q⟩ := h
    refine ⟨_, (pss_one (ps_ret (pe_lock (LH.pe_gen (own := [("row", 3)]) (g := (gName 3)) (b := "any") (by first | rfl | decide +kernel) (fun _ _ _ _ _ _ _ _ ok R => LH.call_any_rdy ok R) hr scIso.nd (by rfl) T.any TB rfl ⟨rfl, by decide +kernel, rfl⟩ (blkOk_by (own := [("row", 3)]) (N := ["self", "volume", "inode", "row"]) (sc := defScope sIso) (by decide +kernel)) (pi_values (pe_fld (pv 0) rfl)) (fun _ => rfl) (fun _ _ _ _ _ _ _ => pg_name (i := 3) scIso.nd rfl (Or.inl rfl)) (fun _ _ _ _ _ _ hr => (pe_cmpR (r := rEqD K) (op_eqD hr.units) (pe_slice (r := rSlT K) sl_tup (pv 3) po_none (po_some pe_int)) (pe_tup (pa_cons (pv 1) (pa_cons (pv 2) pa_nil))) (nomark _))))))), ?_⟩
    have hPd : Pi ≠ d := fun e => by
      have h1 : H Pi = some (.ext (LT.TabPhi Pi)) := hP
      rw [e, hT.d] at h1
      cases h1
    refine s_ret (ev_is (ev_gxV (kvs := kvsOf fs) hT.d (fun od H1 e1 => ev_fld (ev_var rfl) (by rw [upd_ne hdp.symm]; exact e1 _ _ ho) T.cl T.nf rfl) hP hPd (ok_any (fun j => decide ((fs.getD j (0, 0, ⟨"", 0, "", 0, 0⟩)).2.2.vol = v) && decide ((fs.getD j (0, 0, ⟨"", 0, "", 0, 0⟩)).2.2.ino = i))) (fun _ => rfl) (fun j k x od H1 H2 e1 e2 hx => ?_)) (congrArg V.bl ?_)) q
    · unfold kvsOf at hx
      rw [List.getElem?_map] at hx
      obtain ⟨g, hg, e⟩ := Option.map_eq_some_iff.mp hx
      obtain ⟨rfl, rfl⟩ := Prod.mk.inj e
      have ht := hT.t g (List.mem_of_getElem? hg)
      have htd : g.2.1 ≠ d := fun e => by rw [e, hT.d] at ht; cases ht
      have ht2 := e2 _ _ (by rw [upd_ne htd]; exact e1 _ _ ht)
      rw [show fs.getD j (0, 0, ⟨"", 0, "", 0, 0⟩) = g by rw [List.getD_eq_getElem?_getD, hg]; rfl]
      refine ev_is (ev_opUU (ev_is' (eu_sl (ev_var rfl) eo_none (eo_some ev_c) (st_of ht2) (by show ¬ (HT.sIx 5 0 none = 0 ∧ HT.sIx 5 5 (some 2) = 5); decide)) (show cutV g.2.2.v none (some 2) = [.str g.2.2.vol, .int g.2.2.ino] from cut_lo g.2.2.v 2)) (eu_tup (ea_cons (ev_var rfl) (ea_cons (ev_var rfl) ea_nil)) (Nat.le_of_ble_eq_true rfl)) (fun p1 q1 H3 hp hq _ => rv_eqDD (n := 1) (.tup (st_of hp) (.cons (.str _) (.cons (.int _) .nil))) (.tup (st_of hq) (.cons (.str _) (.cons (.int _) .nil))) (sh_tup fun d hd => ?_) (sh_tup fun d hd => ?_) (by decide))) (congrArg V.bl (eqv_vi _ _ _ _))
      · simp only [List.mem_cons, List.not_mem_nil, or_false] at hd
        rcases hd with rfl | rfl
        · exact sh_str (hT.ok g (List.mem_of_getElem? hg)).1
        · exact sh_int _
      · simp only [List.mem_cons, List.not_mem_nil, or_false] at hd
        rcases hd with rfl | rfl
        · exact sh_str hvo
        · exact sh_int _
    · rw [kvs_len]
      exact anyF_list fs _ _ fun j x hx => by rw [List.getD_eq_getElem?_getD, hx]; rfl
end

end K53

set_option Elab.async false
set_option linter.all false
set_option maxRecDepth 100000
set_option maxHeartbeats 4000000
namespace K53
open PySem PySem.Spec PyProof.Rows L2 Evl LK LT LG LS LQ LX LO LN LP LH LV LD
def keysN (fs : Fl) : List Int := fs.map (·.1)
theorem find_none {fs : Fl} {n : Int} : find fs n = none ↔ n ∉ keysN fs := by
  unfold find keysN
  rw [Option.map_eq_none_iff, List.find?_eq_none]
  constructor
  · intro h hm
    obtain ⟨f, hf, e⟩ := List.mem_map.mp hm
    exact h f hf (by simpa using e)
  · intro h f hf e
    exact h (List.mem_map.mpr ⟨f, hf, by simpa using e⟩)
theorem sub_len : ∀ {a b : List Int}, a.Nodup → (∀ x ∈ a, x ∈ b) → a.length ≤ b.length
  | [], b, _, _ => Nat.zero_le _
  | x :: r, b, h, s => by
    have hx := s x List.mem_cons_self
    have h2 := List.nodup_cons.mp h
    have h3 := sub_len (a := r) (b := b.erase x) h2.2 (fun y hy => (List.mem_erase_of_ne (fun e => h2.1 (by rw [← e]; exact hy))).mpr (s y (List.mem_cons_of_mem _ hy)))
    rw [List.length_erase_of_mem hx] at h3
    have h4 := List.length_pos_of_mem hx
    rw [List.length_cons]
    omega
/-- the least number that is not a key -/
def IsLeast (fs : Fl) (n : Nat) : Prop := find fs (n : Int) = none ∧ ∀ m, m < n → (find fs (m : Int)).isSome = true
theorem least_le {fs : Fl} {n : Nat} (h : ∀ m, m < n → (find fs (m : Int)).isSome = true) : n ≤ fs.length := by
  have hs : ((List.range n).map fun m : Nat => (m : Int)).Nodup := List.pairwise_map.mpr ((List.nodup_range (n := n)).imp fun h e => h (by omega))
  have hsub : ∀ z ∈ (List.range n).map fun m : Nat => (m : Int), z ∈ keysN fs := fun z hz => by
    obtain ⟨m, hm, rfl⟩ := List.mem_map.mp hz
    have h1 := h m (List.mem_range.mp hm)
    cases hf : find fs (m : Int) with
    | none => rw [hf] at h1; cases h1
    | some p => exact List.mem_map.mpr ⟨_, find_mem hf, rfl⟩
  have := sub_len hs hsub
  unfold keysN at this
  rw [List.length_map, List.length_map, List.length_range] at this
  exact this
def spAof (C : Addr) : Sp := fun vs H Q _ => ∃ p d fs vol ino mode, vs = [.ref p, .str vol, .int ino, .str mode] ∧ PyData.strOk vol = true ∧ PyData.strOk mode = true ∧ Hd C H p d fs ∧ fs.length < 500 ∧ ∀ (n : Nat) t H1, IsLeast fs n → H t = none → Bx d H H1 → Hd C H1 p d (fs ++ [((n : Int), t, ⟨vol, ino, mode, 0, 1⟩)]) → Q (.int (n : Int)) H1
section
variable {P : Program} {w : World} {K : PySem.W.Frag} {mg : Str → Option Value} {base : Heap} {C CN CH Pi Pu : Addr}
theorem ok_aof {f : Addr} {fd : FuncData} (F : Fun K "add_open_file" "Handles.add_open_file" sAof f fd) (T : Txt mg K C) : FnOk P w K mg base CX0 1 f fd ["self", "volume", "inode", "mode"] (spAof C) := by
  refine F.ok scAof (fun vs H Q E h => ?_) (fun cdv A outer s H vs Q E hr h => ?_)
  · obtain ⟨p, d, fs, vol, ino, mode, rfl, _⟩ := h
    rfl
  · obtain ⟨p, d, fs, vol, ino, mode, rfl, ov, om, hh, hl, q⟩ := h
    obtain ⟨dx, ho, hT, hdp⟩ := id hh
    refine ⟨_, (pss_cons (ps_set (i := 4) scAof.nd rfl (Or.inl rfl) pe_int)
      (pss_cons (ps_while PassesOwn.never (pt_cmp (pc_din (hu_of hr) (pv 4) (pe_fld (pv 0) rfl))) (pss_one (ps_aug (i := 4) scAof.nd rfl (Or.inl rfl) pe_int ip_add)))
      (pss_cons (ps_dput (hu_of hr) (pe_fld (pv 0) rfl) (pv 4) (pe_tup (pa_cons (pv 1) (pa_cons (pv 2) (pa_cons (pv 3) (pa_cons pe_int (pa_cons pe_int pa_nil)))))) (by rfl))
      (pss_one (ps_ret (pv 4)))))), ?_⟩
    refine q_asg ev_c fun H1 e1 => ?_
    refine q_while (fun m σ' H' => ∃ n : Nat, σ' = [some (.ref p), some (.str vol), some (.int ino), some (.str mode), some (.int (n : Int))] ∧ Ex H H' ∧ (∀ j, j < n → (find fs (j : Int)).isSome = true) ∧ m = fs.length + 1 - n) (fs.length + 1) ⟨0, rfl, e1, fun j hj => absurd hj (by omega), rfl⟩ fun m σ' H' ⟨n, e, eH, hn, hm⟩ => ?_
    subst e
    have fl : ∀ {B : Hp} {σ : L2.St}, Ex H B → σ[0]? = some (some (.ref p)) → Ev (tFld K (tVar 0) "_files") σ B (.ref d) := fun e h => ev_fld (ev_var h) (e _ _ ho) T.cl T.nf rfl
    refine ⟨(find fs (n : Int)).isSome, et_is (et_B (ev_dIn (ev_var rfl) (fl eH rfl) (eH _ _ hT.d))) (by rw [valV_kvs, Option.isSome_map]), fun hb H2 e2 => ⟨fun σ2 H2 => ∃ n2 : Nat, σ2 = [some (.ref p), some (.str vol), some (.int ino), some (.str mode), some (.int (n2 : Int))] ∧ Ex H H2 ∧ (∀ j, j < n2 → (find fs (j : Int)).isSome = true) ∧ n2 = n + 1, fun σ2 H3 ⟨n2, e, e3, hn2, h2⟩ => ⟨fs.length + 1 - n2, ?_, n2, e, e3, hn2, rfl⟩, ?_⟩, fun hb H2 e2 => ?_⟩
    · have := least_le hn2
      omega
    · refine s_aug rfl ev_c fun H3 e3 => ⟨n + 1, by push_cast; rfl, (eH.trans e2).trans e3, fun j hj => ?_, rfl⟩
      by_cases h : j = n
      · rw [h]
        exact hb
      · exact hn j (by omega)
    · have hf : find fs (n : Int) = none := by
        cases h : find fs (n : Int) with
        | none => rfl
        | some x => rw [h] at hb; cases hb
      have e02 := eH.trans e2
      have hl2 := hT.l
      have hr : (⟨vol, ino, mode, 0, 1⟩ : Rw).Ok := ⟨ov, om⟩
      refine s_dputU (D := { nx := _, rt := Q }) (xs := (⟨vol, ino, mode, 0, 1⟩ : Rw).v) (eu_tup (ea_cons (ev_var rfl) (ea_cons (ev_var rfl) (ea_cons (ev_var rfl) (ea_cons ev_c (ea_cons ev_c ea_nil))))) (Nat.le_of_ble_eq_true rfl)) (fl e02 rfl) (ev_var rfl) (e02 _ _ hT.d) (by rw [kvs_len]; omega) fun u H3 hu e3 h3 => ?_
      have b3 : Bx d H (upd H3 d (.dK (putK (kvsOf fs) (.inl (n : Int)) (.ref u)))) := (Bx.of (e02.trans e3)).up
      exact s_ret (ev_var rfl) fun H4 e4 => q n u H4 ⟨hf, hn⟩ (fresh_back e02 hu) (b3.trans (Bx.of e4)) ((hh.back b3 (hT.add (e02.trans e3) hf h3 (by omega) hr)).ex e4)
end

end K53

set_option Elab.async false
set_option linter.all false
set_option maxRecDepth 100000
set_option maxHeartbeats 4000000
namespace K53
open PySem PySem.Spec PyProof.Rows L2 Evl LK LT LG LS LQ LX LO LN LP LH LV LD StX
/-- a field, within a try -/
theorem pe_fldT {X : Cx} {K : PySem.W.Frag} {e : Expr} {ta : TE} {f : Str} {pos : Pos} (hK : X.K = K) (he : PE X e ta) (hb : attributeBase e f X.env (eval e X.env) = eval e X.env) : PE X (.Attribute e f pos) (tFld K ta f) := by
  subst hK
  exact pe_fld he hb
/-- *e, within a comprehension -/
theorem pa_starK {X : Cx} {K : PySem.W.Frag} {e : Expr} {es : List Expr} {p : Pos} {te : TE} {t : TA} (hK : X.K = K) (he : PE X e te) (hr : PA X es t) (hs : starEach (.Starred e p :: es) X.env = (true, eval e X.env) :: starEach es X.env := by rfl) : PA X (.Starred e p :: es) (tStar K te t) := by
  subst hK
  exact pa_star he hr hs
def spOpf (C : Addr) : Sp := fun vs H Q _ => ∃ p d fs, ∃ ns : List Int, vs = [.ref p] ∧ Hd C H p d fs ∧ fs.length < 64 ∧ ns.Perm (keysN fs) ∧ ns.Pairwise (· ≤ ·) ∧
  ∀ L ys H1, H L = none → Ex H H1 → H1 L = some (.lst ys) → ys.length = fs.length → (∀ (i : Nat) (y : V), ys[i]? = some y → ∃ u t r, y = .ref u ∧ find fs (ns.getD i 0) = some (t, r) ∧ H1 u = some (.tup (.int (ns.getD i 0) :: r.v))) → Q (.ref L) H1
theorem isO_set {fs : Fl} {n : Int} {t t' : Addr} {r r' : Rw} (h : find fs n = some (t, r)) (hv : r'.vol = r.vol) (hi : r'.ino = r.ino) : isO (setRow fs n t' r') r.vol r.ino = true := by
  unfold isO
  rw [List.any_eq_true]
  refine ⟨(n, t', r'), List.mem_map.mpr ⟨_, find_mem h, if_pos rfl⟩, ?_⟩
  show (decide (r'.vol = r.vol) && decide (r'.ino = r.ino)) = true
  rw [hv, hi, decide_eq_true rfl, decide_eq_true rfl]
  rfl
section
variable {K : PySem.W.Frag} {σ : L2.St} {H : Hp} {t : TT} {ta tb te tl : TE} {D : Ends} {xs : List V} {R : Rel} {j : Nat} {vs : List Nat}
theorem eu_if0 (h : EvT t σ H false) (hb : EvU tb σ H xs) : EvU (tIf t ta tb) σ H xs := fun H1 e Q q => h H1 e _ fun H2 e2 => hb H2 (e.trans e2) Q fun p H3 hp e3 h3 => q p H3 (fresh_back e2 hp) (e2.trans e3) h3
/-- a comprehension over a new list -/
theorem er_NL {zs : List V} (h : EvL tl σ H zs) (hz : zs.length ≤ 40000) (hw : ∀ x, wipe ((wipe σ vs).set j (some x)) vs = wipe σ vs) (mon : Mon R)
    (he : ∀ (i : Nat) (x : V) D H1, H D = none → Ex H H1 → H1 D ≠ none → zs[i]? = some x → ∀ xs : List V, xs.length = i → (∀ j y, xs[j]? = some y → R j (xs.take j) y (but D H1)) → ∀ Q : VK, (∀ y H3, Ex H1 H3 → R i xs y (but D H3) → Q y H3) → te ((wipe σ vs).set j (some x)) H1 Q) :
    EvR (tLc (iList K tl) (gName j) tYes te vs) σ H zs.length R := fun H0 e Q q => h H0 e _ fun a H1 ha e1 h1 => by
  exact (er_L (K := K) (tl := fun _ H Q => Q (.ref a) H) (σ := σ) (H := H1) (fun B _ Q q => q B (Ex.refl _)) (sq_of h1) hz hw mon fun i x Dd B hD eB hDn hx => he i x Dd B (fresh_back (e.trans e1) hD) ((e.trans e1).trans eB) hDn hx) H1 (Ex.refl _) Q fun L ys H2 hL e2 h2 hn hr => q L ys H2 (fresh_back e1 hL) (e1.trans e2) h2 hn hr
end
section
variable {P : Program} {w : World} {K : PySem.W.Frag} {mg : Str → Option Value} {base : Heap} {C CN CH Pi Pu : Addr}
theorem ok_drr {f f1 f2 : Addr} {fd fd1 fd2 : FuncData} (F : Fun K "drop_reference" "Handles.drop_reference" sDrr f fd) (Gfound : FnOk P w K mg base (L2.CX P w) 1 f1 fd1 ["self", "number"] (spFnd C CH)) (bfound : Binds K fd1 ["self", "number"] []) (mfound : Meth K C "_found" f1)
    (Gis_open : FnOk P w K mg base CX0 3 f2 fd2 ["self", "volume", "inode"] (spIso C Pi)) (bis_open : Binds K fd2 ["self", "volume", "inode"] []) (mis_open : Meth K C "is_open" f2) (T : Txt mg K C) : FnOk P w K mg base (L2.CX P w) 4 f fd ["self", "number"] (spDrr C CH Pi) := by
  refine F.okX scDrr (fun vs H Q E h => ?_) (fun cdv A outer s H vs Q E hr h => ?_)
  · obtain ⟨p, d, fs, n, rfl, _⟩ := h
    rfl
  · obtain ⟨p, d, fs, n, rfl, hh, hP, qE, q1, q2, q3⟩ := h
    obtain ⟨dx, ho, hT, hdp⟩ := id hh
    refine ⟨_, (pss_cons (ps_asg (pe_meth (pv 0) T.cl mfound Gfound (hr.mono (by decide)) bfound .nil (pass_own (takes_of rfl rfl rfl rfl)) (pa_cons (pv 1) pa_nil)) (pg_tup (by rfl) (pgs_cons (pg_name (i := 2) scDrr.nd rfl (Or.inl rfl)) (pgs_cons (pg_name (i := 3) scDrr.nd rfl (Or.inl rfl)) (pgs_cons (pg_name (i := 4) scDrr.nd rfl (Or.inl rfl)) (pgs_cons (pg_name (i := 5) scDrr.nd rfl (Or.inl rfl)) (pgs_cons (pg_name (i := 6) scDrr.nd rfl (Or.inl rfl)) pgs_nil)))))))
      (pss_cons (ps_if (pt_cmpR op_gt (pv 6) pe_int (nomark _)) (pss_one (ps_dput (hu_of hr) (pe_fld (pv 0) rfl) (pv 1) (pe_tup (pa_cons (pv 2) (pa_cons (pv 3) (pa_cons (pv 4) (pa_cons (pv 5) (pa_cons (pe_op op_sub (pv 6) pe_int) pa_nil)))))) (by rfl))) (pss_one (ps_ddel (pe_fld (pv 0) rfl) (pv 1))))
      (pss_one (ps_ret (pe_ifExp (pt_val (pe_meth (pv 0) T.cl mis_open Gis_open (hr.mono (by decide)) bis_open .nil pass0 (pa_cons (pv 2) (pa_cons (pv 3) pa_nil)))) pe_non (pe_tup (pa_cons (pv 2) (pa_cons (pv 3) pa_nil)))))))), ?_⟩
    have hPd : Pi ≠ d := fun e => by
      have h1 : H Pi = some (.ext (LT.TabPhi Pi)) := hP
      rw [e, hT.d] at h1
      cases h1
    refine m_run (ev_var rfl) ho rfl (ea_cons (ev_var rfl) ea_nil) fun H1 e1 => ⟨p, d, fs, n, rfl, hh.ex e1, fun t r hf H2 e2 => ?_, fun hf H2 e2 => qE hf H2 (e1.trans e2)⟩
    have e12 := e1.trans e2
    have ht := e12 _ _ (hT.t _ (find_mem hf))
    have hok := hT.ok _ (find_mem hf)
    refine ⟨t, r.v, rfl, st_of ht, rfl, _, _, rfl, _, _, rfl, _, _, rfl, _, _, rfl, _, _, rfl, rfl, ?_⟩
    have fin : ∀ {B : Hp} {fs' : Fl} {b : Bool}, Bx d H B → Hd C B p d fs' → isO fs' r.vol r.ino = b → EvT (tB (tMeth C "is_open" (spIso C Pi) [] E0 (tVar 0) (tCons (tVar 2) (tCons (tVar 3) tNil)))) [some (.ref p), some (.int n), some (.str r.vol), some (.int r.ino), some (.str r.mode), some (.int r.pos), some (.int r.refs)] B b := fun {B fs' b} eB hB hb => by
      obtain ⟨dx2, ho2, _⟩ := id hB
      exact et_B (ev_meth (ev_var rfl) ho2 rfl (ea_cons (ev_var rfl) (ea_cons (ev_var rfl) ea_nil)) fun H3 e3 Q' q' E' => ⟨p, d, fs', r.vol, r.ino, rfl, hok.1, hB.ex e3, (show H3 Pi = some (.ext (LT.TabPhi Pi)) from e3 _ _ (eB _ _ hPd hP)), by rw [hb]; exact q'⟩)
    refine (q_if (D := { nx := fun x H' => Q V.non H', rt := Q }) (b := decide (1 < r.refs)) (et_test (ev_op (ev_var rfl) ev_c rv_I0)) ?_ ?_ : tSeq (tIfS (tTest (tOp (rI0 fun i j => V.bl (decide (j < i))) (tVar 6) (tC (V.int 1)))) _ _) _ { nx := fun x H' => Q V.non H', rt := Q } [some (.ref p), some (.int n), some (.str r.vol), some (.int r.ino), some (.str r.mode), some (.int r.pos), some (.int r.refs)] H2)
    · intro hb H3 e3
      have hr1 : r.refs > 1 := of_decide_eq_true hb
      have e13 := e12.trans e3
      refine s_dputU (xs := ({ r with refs := r.refs - 1 } : Rw).v) (eu_tup (ea_cons (ev_var rfl) (ea_cons (ev_var rfl) (ea_cons (ev_var rfl) (ea_cons (ev_var rfl) (ea_cons (ev_op (ev_var rfl) ev_c rv_I0) ea_nil))))) (Nat.le_of_ble_eq_true rfl)) (ev_fld (ev_var rfl) (e13 _ _ ho) T.cl T.nf rfl) (ev_var rfl) (e13 _ _ hT.d) (by rw [kvs_len]; have := hT.l; omega) fun u H4 hu e4 h4 => ?_
      have b4 : Bx d H (upd H4 d (.dK (putK (kvsOf fs) (.inl n) (.ref u)))) := (Bx.of (e13.trans e4)).up
      have h5 := hh.back b4 (hT.set (r := { r with refs := r.refs - 1 }) (e13.trans e4) (by rw [hf]; rfl) h4 hok)
      exact s_ret (ev_if (fin b4 h5 (isO_set hf rfl rfl)) (fun _ => ev_c) (fun h => by cases h)) fun H6 e6 => q1 t r hf hr1 u H6 (fresh_back e13 hu) (b4.trans (Bx.of e6)) (h5.ex e6)
    · intro hb H3 e3
      have hr1 : ¬ r.refs > 1 := of_decide_eq_false hb
      have e13 := e12.trans e3
      refine s_ddel (ev_fld (ev_var rfl) (e13 _ _ ho) T.cl T.nf rfl) (ev_var rfl) (e13 _ _ hT.d) (by rw [valV_kvs, hf]; rfl) fun H4 e4 => ?_
      have b4 : Bx d H (upd H4 d (.dK (dropK (kvsOf fs) (.inl n)))) := (Bx.of (e13.trans e4)).up
      have h5 := hh.back b4 (hT.drop (n := n) (e13.trans e4))
      cases hO : isO (dropRow fs n) r.vol r.ino with
      | true => exact s_ret (ev_if (fin b4 h5 hO) (fun _ => ev_c) (fun h => by cases h)) fun H6 e6 => q2 t r hf hr1 hO H6 (b4.trans (Bx.of e6)) (h5.ex e6)
      | false => exact s_retU (eu_if0 (fin b4 h5 hO) (eu_tup (ea_cons (ev_var rfl) (ea_cons (ev_var rfl) ea_nil)) (Nat.le_of_ble_eq_true rfl))) fun u H6 hu e6 h6 => q3 t r hf hr1 hO u H6 (b4.back (fun e => by
          obtain ⟨_, _, h6, _⟩ := h5
          rw [e, h6.d] at hu
          cases hu) hu) (b4.trans (Bx.of e6)) (h5.ex e6) h6
theorem ok_opf {f : Addr} {fd : FuncData} (F : Fun K "open_files" "Handles.open_files" sOpf f fd) (T : Txt mg K C) : FnOk P w K mg base CX0 1 f fd ["self"] (spOpf C) := by
  refine F.ok scOpf (fun vs H Q E h => ?_) (fun cdv A outer s H vs Q E hr h => ?_)
  · obtain ⟨p, d, fs, ns, rfl, _⟩ := h
    rfl
  · obtain ⟨p, d, fs, ns, rfl, ⟨dx, ho, hT, hdp⟩, h64, hp, hs, q⟩ := h
    refine ⟨_, (pss_one (ps_ret (pe_lc (own := [("number", 1)]) (g := gName 1) (tt := tYes) rfl scOpf.nd (pi_list (pe_callB (call_sortedDI rfl) (by rfl) T.sorted (by decide +kernel) (pa_cons (pe_fld (pv 0) rfl) pa_nil))) (blkOk_by (own := [("number", 1)]) (N := ["self", "number"]) (sc := defScope sOpf) (by decide +kernel)) (fun _ _ _ _ _ => pg_name (i := 1) scOpf.nd rfl (Or.inl rfl)) (fun _ _ _ _ _ => pts_nil) (fun _ _ _ _ _ => (pe_tup (pa_cons (pv 1) (pa_starK (K := K) rfl (pe_dget (hu_of hr) (pe_fldT (K := K) rfl (pv 0) rfl) (pv 1) (fun _ _ => rfl)) pa_nil))))))), ?_⟩
    have fl : ∀ {B : Hp} {σ : L2.St}, Ex H B → σ[0]? = some (some (.ref p)) → Ev (tFld K (tVar 0) "_files") σ B (.ref d) := fun e h => ev_fld (ev_var h) (e _ _ ho) T.cl T.nf rfl
    have hnl : ns.length = fs.length := by rw [hp.length_eq]; unfold keysN; rw [List.length_map]
    refine er_ret (R := fun i _ y B => ∃ u t r, y = .ref u ∧ find fs (ns.getD i 0) = some (t, r) ∧ B u = some (.tup (.int (ns.getD i 0) :: r.v))) (er_NL (zs := ns.map V.int) (el_sortedD (ks := keysN fs) (fl (Ex.refl _) rfl) hT.d (by unfold kvsOf keysN; rw [List.map_map, List.map_map]; rfl) (by unfold keysN; rw [List.length_map]; exact h64) (fun ys h1 h2 => sorted_uni (h1.trans hp.symm) h2 hs)) (by rw [List.length_map]; omega) (fun _ => rfl) (fun i prev y B B' e ⟨u, t, r, h1, h2, h3⟩ => ⟨u, t, r, h1, h2, e _ _ h3⟩) (fun i x Dd B hD eB hDn hx xs hxs hpre Q' q' => ?_)) fun L ys H1 hL e1 h1 hn hr => q L ys H1 hL e1 h1 (by rw [hn, List.length_map, hnl]) hr
    rw [List.getElem?_map] at hx
    obtain ⟨z, hz, rfl⟩ := Option.map_eq_some_iff.mp hx
    have hzd : ns.getD i 0 = z := by rw [List.getD_eq_getElem?_getD, hz]; rfl
    have hzm : z ∈ keysN fs := hp.mem_iff.mp (List.mem_of_getElem? hz)
    obtain ⟨tr, htr⟩ : ∃ tr, find fs z = some tr := by
      cases hf : find fs z with
      | none => exact absurd hzm (find_none.mp hf)
      | some tr => exact ⟨tr, rfl⟩
    have ht := eB _ _ (hT.t _ (find_mem htr))
    refine (eu_tup (ea_cons (ev_var rfl) (ea_starT (xs := tr.2.v) (ys := []) (ev_dget (fl eB rfl) (ev_var rfl) (eB _ _ hT.d) (by rw [valV_kvs, htr]; rfl)) (st_of ht) ea_nil)) (by rw [List.append_nil]; show 6 ≤ 100000; decide) : EvU _ _ B _) B (Ex.refl _) _ fun u B2 hu eB2 h2 => q' (.ref u) B2 eB2 ⟨u, tr.1, tr.2, rfl, by rw [hzd, htr], ?_⟩
    rw [hzd]
    refine but_new hDn hu ?_
    rw [h2, List.append_nil]
end

end K53

set_option Elab.async false
set_option linter.all false
set_option maxRecDepth 100000
set_option maxHeartbeats 4000000
namespace K53
open PySem PySem.Spec PyProof.Rows L2 Evl LK LT LG LS LQ LX LO LN LP LH LV LD StX
/-- the law's dict: its values are lists -/
structure Tl (H : Hp) (d : Addr) (gs : Fl) : Prop where
  d : H d = some (.dK (kvsOf gs))
  t : ∀ g ∈ gs, H g.2.1 = some (.lst g.2.2.v)
  nd : (gs.map (·.1)).Nodup
  na : (gs.map (·.2.1)).Nodup
  l : gs.length ≤ 1000
theorem Tl.ex {H H' : Hp} {d : Addr} {gs : Fl} (h : Tl H d gs) (e : Ex H H') : Tl H' d gs := ⟨e _ _ h.d, fun f hf => e _ _ (h.t f hf), h.nd, h.na, h.l⟩
section
variable {K : PySem.W.Frag} {σ : L2.St} {H : Hp} {tl : TE} {tb tz : TS} {D : Ends} {d : Addr} {kvs : List (Key × V)} {j : Nat}
theorem q_forK (hd : H d = some (.dK kvs)) (hl : ∀ od, Ev tl σ (upd H d (.frz od (.dK kvs))) (.ref d)) (S : Nat → L2.St → Prop) (h0 : S 0 σ)
    (hs : ∀ od i k v σ' H2, kvs[i]? = some (k, v) → S i σ' → Ex (upd H d (.frz od (.dK kvs))) H2 → ∀ DD : Ends, DD.nx = (fun σ2 H3 => S (i + 1) σ2 ∧ Ex (upd H d (.frz od (.dK kvs))) H3) → DD.rt = (fun v H3 => H3 d = some (.frz od (.dK kvs)) ∧ D.rt v (upd H3 d (.dK kvs))) → tb DD (σ'.set j (some (kV k))) H2)
    (hn : ∀ σ' H', S kvs.length σ' → Ex H H' → tz D σ' H') : tSeq (tLock (tFor (iKeys tl) (gName j) tb)) tz D σ H :=
  ⟨d, .dK kvs, hd, True.intro, fun od => hl od _ (Ex.refl _) _ fun H1 e1 => ⟨d, od, rfl, .inl ⟨kvs, e1 _ _ upd_same, for_it walk_keys (fun i σ' H' => S i σ' ∧ Ex (upd H d (.frz od (.dK kvs))) H') ⟨h0, e1⟩ (fun i σ' H' _ p => p.2 _ _ upd_same) (fun i x σ' H' H2 hi p y => by
    obtain ⟨rfl, k, v, hk, rfl⟩ := y
    exact hs od i k v σ' _ hk p.1 p.2 _ rfl rfl) (fun σ' H' p => ⟨p.2 _ _ upd_same, hn σ' _ p.1 (ex_unlock hd p.2)⟩)⟩⟩⟩
end
def spLop : Sp := fun vs H Q _ => ∃ d gs v i, vs = [.ref d, .str v, .int i] ∧ Tl H d gs ∧ RetV (.bl (isO gs v i)) H Q
section
variable {P : Program} {w : World} {K : PySem.W.Frag} {mg : Str → Option Value} {base : Heap} {C CN CH Pi Pu : Addr}
theorem ev_dgetR {σ : L2.St} {H : Hp} {td tk : TE} {d : Addr} {kvs : List (Key × V)} {z : Int} {v : V} (hd : Ev td σ H (.ref d)) (hk : Ev tk σ H (.int z)) (h : ∃ od, H d = some (.frz od (.dK kvs))) (hv : valV kvs (.inl z) = some v) : Ev (tDGet td tk) σ H v := fun H1 e Q q =>
  hd H1 e _ fun H2 e2 => hk H2 (e.trans e2) _ fun H3 e3 => ⟨d, v, rfl, .inl ⟨kvs, .inl z, .inr (let ⟨od, h⟩ := h; ⟨od, ((e.trans e2).trans e3) _ _ h⟩), rfl, hv.symm⟩, q H3 (e2.trans e3)⟩
theorem find_at {gs : Fl} (hn : (gs.map (·.1)).Nodup) {i : Nat} {g : Int × Addr × Rw} (hg : gs[i]? = some g) : find gs g.1 = some g.2 := by
  cases h : find gs g.1 with
  | none => exact absurd (List.mem_map.mpr ⟨g, List.mem_of_getElem? hg, rfl⟩) (find_none.mp h)
  | some p =>
    have hm := find_mem h
    obtain ⟨j, hj⟩ := List.mem_iff_getElem?.mp hm
    have e : i = j := by
      have h1 : (gs.map (·.1))[i]? = some g.1 := by rw [List.getElem?_map, hg]; rfl
      have h2 : (gs.map (·.1))[j]? = some g.1 := by rw [List.getElem?_map, hj]; rfl
      have hi := (List.getElem?_eq_some_iff.mp h1)
      have hjj := (List.getElem?_eq_some_iff.mp h2)
      obtain ⟨a1, a2⟩ := hi
      obtain ⟨b1, b2⟩ := hjj
      exact (List.getElem_inj (h₀ := a1) (h₁ := b1) hn).mp (by rw [a2, b2])
    subst e
    rw [hg] at hj
    have hp := congrArg Prod.snd (Option.some.inj hj)
    exact congrArg some hp.symm
theorem ok_lop {f : Addr} {fd : FuncData} (F : Fun K "_law_open" "_law_open" sLop f fd) (T : Txt mg K C) : FnOk P w K mg base CX0 1 f fd ["files", "volume", "inode"] spLop := by
  refine F.ok scLop (fun vs H Q E h => ?_) (fun cdv A outer s H vs Q E hr h => ?_)
  · obtain ⟨d, gs, v, i, rfl, _⟩ := h
    rfl
  · obtain ⟨d, gs, v, i, rfl, hT, q⟩ := h
    refine ⟨_, (pss_cons (ps_lock (ps_for PassesOwn.never rfl (pi_keys (pv 0)) (pg_name (i := 3) scLop.nd rfl (Or.inl rfl)) (pss_one (ps_if (PW.pt (pw_and (pt_cmpR op_eq (pe_ix ix_list (pe_dget (hu_of hr) (pv 0) (pv 3) (fun _ _ => rfl)) pe_int (fun _ _ => rfl)) (pv 1) (nomark _)) (pw_and1 (pt_cmpR op_eq (pe_ix ix_list (pe_dget (hu_of hr) (pv 0) (pv 3) (fun _ _ => rfl)) pe_int (fun _ _ => rfl)) (pv 2) (nomark _))))) (pss_one (ps_ret pe_bl)) pss_nil))))
      (pss_one (ps_ret pe_bl))), ?_⟩
    refine q_forK hT.d (fun od => ev_var rfl) (fun n σ' => ∃ y3, σ' = [some (.ref d), some (.str v), some (.int i), y3] ∧ ∀ j x, j < n → gs[j]? = some x → ¬ (x.2.2.vol = v ∧ x.2.2.ino = i)) ⟨none, rfl, fun j x hj => absurd hj (by omega)⟩ (fun od n k vv σ' H2 hk hS e DD hnx hrt => ?_) (fun σ' H' hS e => ?_)
    · obtain ⟨y3, rfl, hno⟩ := hS
      unfold kvsOf at hk
      rw [List.getElem?_map] at hk
      obtain ⟨g, hg, eg⟩ := Option.map_eq_some_iff.mp hk
      obtain ⟨rfl, rfl⟩ := Prod.mk.inj eg
      have ht := hT.t g (List.mem_of_getElem? hg)
      have htd : g.2.1 ≠ d := fun e => by rw [e, hT.d] at ht; cases ht
      have hgl : ∀ {B : Hp}, Ex H2 B → B g.2.1 = some (.lst g.2.2.v) := fun c => c _ _ (e _ _ (by rw [upd_ne htd]; exact ht))
      have hd2 : ∀ {B : Hp}, Ex H2 B → B d = some (.frz od (.dK (kvsOf gs))) := fun c => c _ _ (e _ _ upd_same)
      have gl : ∀ {B : Hp}, Ex H2 B → Ev (tDGet (tVar 0) (tVar 3)) [some (.ref d), some (.str v), some (.int i), some (.int g.1)] B (.ref g.2.1) := fun c => ev_dgetR (ev_var rfl) (ev_var rfl) ⟨od, hd2 c⟩ (by rw [valV_kvs, find_at hT.nd hg]; rfl)
      refine s_when (b := decide (V.str g.2.2.vol = V.str v) && decide (V.int g.2.2.ino = V.int i)) (et_and (et_test (ev_op (ev_op (gl (Ex.refl _)) ev_c (rv_ixL (sq_of (hgl (Ex.refl _))) (atI_nat (j := 0) rfl))) (ev_var rfl) (rv_eq rfl))) (fun _ => et_test (ev_op (ev_op (gl (Ex.refl _)) ev_c (rv_ixL (sq_of (hgl (Ex.refl _))) (atI_nat (j := 1) rfl))) (ev_var rfl) (rv_eq rfl)))) (fun hb H3 e3 => ?_) (fun hb H3 e3 => ?_)
      · refine s_ret ev_c fun H4 e4 => ?_
        rw [hrt]
        refine ⟨hd2 (e3.trans e4), ?_⟩
        have hO : isO gs v i = true := by
          unfold isO
          rw [List.any_eq_true]
          refine ⟨g, List.mem_of_getElem? hg, ?_⟩
          simpa using hb
        rw [hO] at q
        exact q _ (ex_unlock hT.d ((e.trans e3).trans e4))
      · rw [hnx]
        refine ⟨⟨_, rfl, fun j x hj hx => ?_⟩, e.trans e3⟩
        by_cases hjn : j < n
        · exact hno j x hjn hx
        · obtain rfl : j = n := by omega
          rw [hg] at hx
          cases hx
          intro hc
          rw [hc.1, hc.2, decide_eq_true rfl, decide_eq_true rfl] at hb
          cases hb
    · obtain ⟨y3, rfl, hno⟩ := hS
      have hO : isO gs v i = false := by
        unfold isO
        rw [List.any_eq_false]
        intro g hg
        obtain ⟨j, hj⟩ := List.mem_iff_getElem?.mp hg
        have := hno j g (by rw [kvs_len]; exact (List.getElem?_eq_some_iff.mp hj).1) hj
        simpa using this
      rw [hO] at q
      exact s_ret ev_c fun H4 e4 => q H4 (e.trans e4)
end

end K53

set_option Elab.async false
set_option linter.all false
set_option maxRecDepth 100000
set_option maxHeartbeats 4000000
namespace K53
open PySem PySem.Spec PyProof.Rows L2 Evl LK LT LG LS LQ LX LO LN LP LH LV LD StX
/-! ### the law's helpers that do not change its dict -/
def wC (b : Bool) : Str := if b = true then "BadHandle" else "NotValid"
def spCls (CH CN : Addr) : Addr → Addr → Sp := fun D a vs H Q _ => vs = [.ref a] ∧ ∃ b : Bool, ((D = CH ∧ b = true) ∨ (D = CN ∧ b = false)) ∧ ∀ q H', H q = none → Ex H H' → H' q = some (.lst [.str (wC b)]) → Q (.ref q) H'
def spLst : Sp := fun vs H Q _ => ∃ d gs, vs = [.ref d] ∧ Tl H d gs ∧ ∀ n, IsLeast gs n → RetV (.int (n : Int)) H Q
theorem ex_n {H H1 : Hp} {q : Addr} {u : HO} (hq : H q = none) (e : Ex H H1) : Ex H (upd H1 q u) := fun a o h => by
  rw [upd_ne (fun c => by rw [c, hq] at h; cases h)]
  exact e _ _ h
section
variable {P : Program} {w : World} {K : PySem.W.Frag} {mg : Str → Option Value} {base : Heap} {C CN CH Pi Pu : Addr}
theorem ok_cls {f : Addr} {fd : FuncData} (F : Fun K "_law_classes" "_law_classes" sCls_ f fd) (T : Txt mg K C) (XH : Xc K mg "BadHandle" CH) (XN : Xc K mg "NotValid" CN) (XCH : ExcC K CH) (XCN : ExcC K CN) (sHH : PySem.W.subIn K (.ref CH) (.ref CH) = some true) (sHN : PySem.W.subIn K (.ref CH) (.ref CN) = some false) (sNH : PySem.W.subIn K (.ref CN) (.ref CH) = some false) (sNN : PySem.W.subIn K (.ref CN) (.ref CN) = some true) : FnE P w K mg base CX0 1 f fd ["error"] (spCls CH CN) := by
  refine okE F scCls_ (fun D a vs H Q E h => ?_) (fun cdv A outer s H vs Q E p D hr hz hf h => ?_)
  · obtain ⟨rfl, _⟩ := h
    rfl
  · obtain ⟨rfl, b, hD, q⟩ := h
    refine ⟨_, (pss_cons (ps_set (i := 1) scCls_.nd rfl (Or.inl rfl) (pe_lst pa_nil))
      (pss_cons (ps_if (pt_val (pe_callB (call_isP (List.mem_singleton.mpr rfl) hz hf) (by rfl) T.isinstance (by decide +kernel) (pa_cons (pv 0) (pa_cons (pe_glob (v := .ref CH) rfl XH.g rfl) pa_nil)))) (pss_one (ps_expr (pe_bm PySem.F.plainAttrs_list PySem.F.slot_list_append PySem.F.type_list_append mt_append (pv 1) (pa_cons pe_str pa_nil)))) pss_nil)
      (pss_cons (ps_if (pt_val (pe_callB (call_isP (List.mem_singleton.mpr rfl) hz hf) (by rfl) T.isinstance (by decide +kernel) (pa_cons (pv 0) (pa_cons (pe_glob (v := .ref CN) rfl XN.g rfl) pa_nil)))) (pss_one (ps_expr (pe_bm PySem.F.plainAttrs_list PySem.F.slot_list_append PySem.F.type_list_append mt_append (pv 1) (pa_cons pe_str pa_nil)))) pss_nil)
      (pss_one (ps_ret (pv 1)))))), ?_⟩
    refine q_asgL (el_lst ea_nil (by simp)) fun l H1 hl e1 h1 => ?_
    rcases hD with ⟨rfl, rfl⟩ | ⟨rfl, rfl⟩
    · refine q_when (b := true) (et_B (ev_isP XCH (ev_var rfl) ev_c (XH.kit sHH fun _ => rfl))) (fun _ H2 e2 => ?_) (fun h => by cases h)
      refine s_app (e2 _ _ h1) (ev_var rfl) ev_c (by decide) fun H3 e3 => ?_
      refine q_when (b := false) (et_B (ev_isP XCH (ev_var rfl) ev_c (XN.kit sHN fun e => by
        cases e
        rw [sHH] at sHN
        cases sHN))) (fun h => by cases h) (fun _ H4 e4 => ?_)
      exact s_ret (ev_var rfl) fun H5 e5 => q l H5 hl ((ex_n hl ((e1.trans e2).trans e3)).trans (e4.trans e5)) (e5 _ _ (e4 _ _ upd_same))
    · refine q_when (b := false) (et_B (ev_isP XCN (ev_var rfl) ev_c (XH.kit sNH fun e => by
        cases e
        rw [sNN] at sNH
        cases sNH))) (fun h => by cases h) (fun _ H2 e2 => ?_)
      refine q_when (b := true) (et_B (ev_isP XCN (ev_var rfl) ev_c (XN.kit sNN fun _ => rfl))) (fun _ H3 e3 => ?_) (fun h => by cases h)
      refine s_app (e3 _ _ (e2 _ _ h1)) (ev_var rfl) ev_c (by decide) fun H4 e4 => ?_
      exact s_ret (ev_var rfl) fun H5 e5 => q l H5 hl ((ex_n hl (((e1.trans e2).trans e3).trans e4)).trans e5) (e5 _ _ upd_same)
theorem ok_lst {f : Addr} {fd : FuncData} (F : Fun K "_law_least" "_law_least" sLst f fd) (T : Txt mg K C) : FnOk P w K mg base CX0 1 f fd ["files"] spLst := by
  refine F.ok scLst (fun vs H Q E h => ?_) (fun cdv A outer s H vs Q E hr h => ?_)
  · obtain ⟨d, gs, rfl, _⟩ := h
    rfl
  · obtain ⟨d, gs, rfl, hT, q⟩ := h
    have hl := hT.l
    refine ⟨_, (pss_cons (ps_for PassesOwn.never rfl (pi_range1 (by rfl) T.range (pa_cons (pe_op op_add (pe_callB call_lenD (by rfl) T.len (by decide +kernel) (pa_cons (pv 0) pa_nil)) pe_int) pa_nil)) (pg_name (i := 1) scLst.nd rfl (Or.inl rfl)) (pss_one (ps_if (pt_cmp (pc_dnotin (hu_of hr) (pv 1) (pv 0))) (pss_one (ps_ret (pv 1))) pss_nil)))
      (pss_one (ps_ret (pe_un un_neg pe_int)))), ?_⟩
    refine q_forR1 (n := (gs.length : Int) + 1) (ea_cons (ev_op (ev_cb (z := .int (gs.length : Int)) (ea_cons (ev_var rfl) ea_nil) (fun H1 e Q q => ⟨d, _, rfl, e _ _ hT.d, by rw [kvs_len]; exact q H1 (Ex.refl _)⟩)) ev_c rv_I0) ea_nil) ⟨by omega, by omega⟩ (fun i σ' H' => ∃ y, σ' = [some (.ref d), y] ∧ Ex H H' ∧ ∀ j, j < i → (find gs (j : Int)).isSome = true) (fun H1 e1 => ⟨none, rfl, e1, fun j hj => absurd hj (by omega)⟩) ?_ ?_
    · rintro i σ' H' hi ⟨y, rfl, e0, hn⟩
      refine s_when (b := !(find gs (i : Int)).isSome) (et_is (et_B (ev_dNi (ev_var rfl) (ev_var rfl) (e0 _ _ hT.d))) (by rw [valV_kvs, Option.isSome_map])) (fun hb H1 e1 => ?_) (fun hb H1 e1 => ⟨_, rfl, e0.trans e1, fun j hj => ?_⟩)
      · have hf : find gs (i : Int) = none := by
          cases h : find gs (i : Int) with
          | none => rfl
          | some x => rw [h] at hb; cases hb
        exact s_ret (ev_var rfl) fun H2 e2 => q i ⟨hf, hn⟩ H2 ((e0.trans e1).trans e2)
      · by_cases h : j = i
        · rw [h]
          simpa using hb
        · exact hn j (by omega)
    · rintro σ' H' ⟨y, rfl, e0, hn⟩
      have := least_le hn
      omega
end

end K53

set_option Elab.async false
set_option linter.all false
set_option maxRecDepth 100000
set_option maxHeartbeats 4000000
namespace K53
open PySem PySem.Spec PyProof.Rows L2 Evl LK LT LG LS LQ LX LO LN LP LH LV LD StX
/-! ### a deed, as the program plays it -/
inductive Out
  | non
  | bad
  | inv
  | pair (v : Str) (i : Int)
  | quad (r : Rw)
def IsPl (H : Hp) (v : V) : Out → Prop
  | .non => ∃ q, v = .ref q ∧ H q = some (.lst [.non])
  | .bad => ∃ q, v = .ref q ∧ H q = some (.lst [.str "BadHandle"])
  | .inv => ∃ q, v = .ref q ∧ H q = some (.lst [.str "NotValid"])
  | .pair a i => ∃ q u, v = .ref q ∧ H q = some (.lst [.ref u]) ∧ H u = some (.tup [.str a, .int i])
  | .quad r => ∃ q u, v = .ref q ∧ H q = some (.lst [.ref u]) ∧ H u = some (.tup [.str r.vol, .int r.ino, .str r.mode, .int r.pos])
def ouD : Out → PyData
  | .non => .list [.none]
  | .bad => .list [.str "BadHandle"]
  | .inv => .list [.str "NotValid"]
  | .pair a i => .list [.tuple [.str a, .int i]]
  | .quad r => .list [.tuple [.str r.vol, .int r.ino, .str r.mode, .int r.pos]]
theorem IsPl.ex {H H' : Hp} {v : V} {o : Out} (h : IsPl H v o) (e : Ex H H') : IsPl H' v o := by
  cases o with
  | non => obtain ⟨q, a, b⟩ := h; exact ⟨q, a, e _ _ b⟩
  | bad => obtain ⟨q, a, b⟩ := h; exact ⟨q, a, e _ _ b⟩
  | inv => obtain ⟨q, a, b⟩ := h; exact ⟨q, a, e _ _ b⟩
  | pair x i => obtain ⟨q, u, a, b, c⟩ := h; exact ⟨q, u, a, e _ _ b, e _ _ c⟩
  | quad r => obtain ⟨q, u, a, b, c⟩ := h; exact ⟨q, u, a, e _ _ b, e _ _ c⟩
structure PlQ (C : Addr) (H : Hp) (Q : VK) (p d : Addr) (fs : Fl) (deed n z : Int) : Prop where
  bad : find fs n = none → ∀ v H1, Ex H H1 → IsPl H1 v .bad → Q v H1
  add : deed = 1 → ∀ t r, find fs n = some (t, r) → ∀ v t' H1, Bx d H H1 → Hd C H1 p d (setRow fs n t' { r with refs := r.refs + 1 }) → IsPl H1 v .non → Q v H1
  sub : deed = 2 → ∀ t r, find fs n = some (t, r) → r.refs > 1 → ∀ v t' H1, Bx d H H1 → Hd C H1 p d (setRow fs n t' { r with refs := r.refs - 1 }) → IsPl H1 v .non → Q v H1
  gon : deed = 2 → ∀ t r, find fs n = some (t, r) → ¬ r.refs > 1 → isO (dropRow fs n) r.vol r.ino = true → ∀ v H1, Bx d H H1 → Hd C H1 p d (dropRow fs n) → IsPl H1 v .non → Q v H1
  las : deed = 2 → ∀ t r, find fs n = some (t, r) → ¬ r.refs > 1 → isO (dropRow fs n) r.vol r.ino = false → ∀ v H1, Bx d H H1 → Hd C H1 p d (dropRow fs n) → IsPl H1 v (.pair r.vol r.ino) → Q v H1
  inv : deed = 3 → ∀ t r, find fs n = some (t, r) → (z < 0 ∨ z > 2048) → ∀ v H1, Ex H H1 → IsPl H1 v .inv → Q v H1
  mov : deed = 3 → ∀ t r, find fs n = some (t, r) → 0 ≤ z → z ≤ 2048 → ∀ v t' H1, Bx d H H1 → Hd C H1 p d (setRow fs n t' { r with pos := z }) → IsPl H1 v .non → Q v H1
  lup : deed ≠ 1 → deed ≠ 2 → deed ≠ 3 → ∀ t r, find fs n = some (t, r) → ∀ v H1, Ex H H1 → IsPl H1 v (.quad r) → Q v H1
def spPlay (C Pi : Addr) : Sp := fun vs H Q _ => ∃ p d fs deed n z, vs = [.ref p, .int deed, .int n, .int z] ∧ Hd C H p d fs ∧ Tab H Pi ∧ PlQ C H Q p d fs deed n z
section
variable {K : PySem.W.Frag} {σ : L2.St} {H : Hp} {ta : TE} {t : TA} {D : Ends} {C p dx : Addr} {fs : List (Str × V)} {m : Str} {sp : Sp} {vs : List V}
/-- return [p.m(..)], within a try -/
theorem r_mAl {E : L2.St → XK} (ha : Ev ta σ H (.ref p)) (hi : H p = some (.ins C dx fs)) (hl : fs.lookup m = none) (ht : EvA t σ H vs) (k : ∀ H1, Ex H H1 → sp (.ref p :: vs) H1 (fun v H2 => [v].length ≤ sizeLine ∧ ∀ L, H2 L = none → D.rt (.ref L) (upd H2 L (.lst [v]))) (E σ)) : tRet (tLst (tCons (tMethA C m sp E ta t) tNil)) D σ H :=
  mA_run (Q := fun v H2 => [v].length ≤ sizeLine ∧ ∀ L, H2 L = none → D.rt (.ref L) (upd H2 L (.lst [v]))) ha hi hl ht k
end
section
variable {P : Program} {w : World} {K : PySem.W.Frag} {mg : Str → Option Value} {base : Heap} {C CN CH CL Pi Pu : Addr}
theorem ok_play {f fK f1 f2 f3 f4 : Addr} {fd fdK fd1 fd2 fd3 fd4 : FuncData} (F : Fun K "_law_play" "_law_play" sPlay f fd) (FKi : Fun K "_law_classes" "_law_classes" sCls_ fK fdK) (GKi : FnE P w K mg base CX0 1 fK fdK ["error"] (spCls CH CN)) (bKi : Binds K fdK ["error"] []) (gKi : mg "_law_classes" = some (.ref fK))
    (Gadd_reference : FnOk P w K mg base (L2.CX P w) 2 f1 fd1 ["self", "number"] (spAdr C CH)) (badd_reference : Binds K fd1 ["self", "number"] []) (madd_reference : Meth K C "add_reference" f1)
    (Gdrop_reference : FnOk P w K mg base (L2.CX P w) 4 f2 fd2 ["self", "number"] (spDrr C CH Pi)) (bdrop_reference : Binds K fd2 ["self", "number"] []) (mdrop_reference : Meth K C "drop_reference" f2)
    (Gmove_to : FnOk P w K mg base (L2.CX P w) 2 f3 fd3 ["self", "number", "position"] (spMov C CH CN)) (bmove_to : Binds K fd3 ["self", "number", "position"] []) (mmove_to : Meth K C "move_to" f3)
    (Glook_up : FnOk P w K mg base (L2.CX P w) 2 f4 fd4 ["self", "number"] (spLup C CH)) (blook_up : Binds K fd4 ["self", "number"] []) (mlook_up : Meth K C "look_up" f4)
    (T : Txt mg K C) (XL : Xc K mg "LaminaError" CL) (sNL : PySem.W.subIn K (.ref CN) (.ref CL) = some true) (sHL : PySem.W.subIn K (.ref CH) (.ref CL) = some true) : FnOk P w K mg base CX0 5 f fd ["handles", "deed", "number", "position"] (spPlay C Pi) := by
  refine F.ok scPlay (fun vs H Q E h => ?_) (fun cdv A outer s H vs Q E hr h => ?_)
  · obtain ⟨p, d, fs, deed, n, z, rfl, _⟩ := h
    rfl
  · obtain ⟨p, d, fs, deed, n, z, rfl, hh, hP, q⟩ := h
    obtain ⟨dx, ho, hT, hdp⟩ := id hh
    refine ⟨_, (pss_cons (ps_try_as (i := 4) rfl rfl scPlay.nd rfl rfl ⟨rfl, by decide, .inl XL.g⟩ takes0 (fun W pn xe tk _ => (pss_one (ps_if (pt_cmpR op_eq (pv 1) pe_int (nomark _)) (pss_one (ps_expr (pe_methA (pv 0) T.cl madd_reference Gadd_reference (hr.mono (by decide)) badd_reference (fun σ => passAt tk σ) (pa_cons (pv 2) pa_nil)))) (pss_one (ps_if (pt_cmpR op_eq (pv 1) pe_int (nomark _)) (pss_one (ps_ret (pe_lst (pa_cons (pe_methA (pv 0) T.cl mdrop_reference Gdrop_reference (hr.mono (by decide)) bdrop_reference (fun σ => passAt tk σ) (pa_cons (pv 2) pa_nil)) pa_nil)))) (pss_one (ps_if (pt_cmpR op_eq (pv 1) pe_int (nomark _)) (pss_one (ps_expr (pe_methA (pv 0) T.cl mmove_to Gmove_to (hr.mono (by decide)) bmove_to (fun σ => passAt tk σ) (pa_cons (pv 2) (pa_cons (pv 3) pa_nil))))) (pss_one (ps_ret (pe_lst (pa_cons (pe_methA (pv 0) T.cl mlook_up Glook_up (hr.mono (by decide)) blook_up (fun σ => passAt tk σ) (pa_cons (pv 2) pa_nil)) pa_nil))))))))))) (fun a oe cls d pn hz hf => (pss_one (ps_ret (pe_callE (E := fun _ => E0) hz hf GKi (hr.mono (by decide)) (by rfl) gKi FKi.kp bKi (fun σ => pass0E) (pa_cons (pv 4) pa_nil))))))
      (pss_one (ps_ret (pe_lst (pa_cons pe_non pa_nil))))), ?_⟩
    refine s_if (et_test (ev_op (ev_var rfl) ev_c (rv_eq rfl))) (fun h1 H1 e1 => ?_) (fun h1 H1 e1 => ?_)
    · have d1 : deed = 1 := by simpa using h1
      exact s_mAV (ev_var rfl) (e1 _ _ ho) rfl (ea_cons (ev_var rfl) ea_nil) fun H2 e2 => ⟨p, d, fs, n, rfl, hh.ex (e1.trans e2), fun hn H3 e3 => ⟨true, XL.exm sHL, fun _ a ha => ⟨.ref a, rfl, CH, rfl, rfl, rfl, true, .inl ⟨rfl, rfl⟩, fun q' H4 hq e4 h4 => q.bad hn _ H4 (((e1.trans e2).trans e3).trans e4) ⟨q', rfl, h4⟩⟩, fun q => nomatch q⟩,
        fun t r hf t' H3 ht b3 hd3 => (by dsimp only; exact s_retL (el_lst (ea_cons ev_c ea_nil) (by simp)) fun L H4 hL e4 h4 => q.add d1 t r hf _ t' H4 ((Bx.of (e1.trans e2)).trans (b3.trans (Bx.of e4))) (hd3.ex e4) ⟨L, rfl, h4⟩)⟩
    have d1 : deed ≠ 1 := by simpa using h1
    refine s_if (et_test (ev_op (ev_var rfl) ev_c (rv_eq rfl))) (fun h2 H2 e2 => ?_) (fun h2 H2 e2 => ?_)
    · have d2 : deed = 2 := by simpa using h2
      have e12 := e1.trans e2
      exact r_mAl (ev_var rfl) (e12 _ _ ho) rfl (ea_cons (ev_var rfl) ea_nil) fun H3 e3 => ⟨p, d, fs, n, rfl, hh.ex (e12.trans e3), Tab.mono (e12.trans e3) hP, fun hn H4 e4 => ⟨true, XL.exm sHL, fun _ a ha => ⟨.ref a, rfl, CH, rfl, rfl, rfl, true, .inl ⟨rfl, rfl⟩, fun q' H5 hq e5 h5 => q.bad hn _ H5 (((e12.trans e3).trans e4).trans e5) ⟨q', rfl, h5⟩⟩, fun q => nomatch q⟩,
        fun t r hf hr t' H4 ht b4 hd4 => ⟨sz_of (by simp), fun L hL => q.sub d2 t r hf hr _ t' _ ((Bx.of (e12.trans e3)).trans (b4.trans (Bx.of (Ex.new hL)))) (hd4.ex (Ex.new hL)) ⟨L, rfl, upd_same⟩⟩,
        fun t r hf hr hi H4 b4 hd4 => ⟨sz_of (by simp), fun L hL => q.gon d2 t r hf hr hi _ _ ((Bx.of (e12.trans e3)).trans (b4.trans (Bx.of (Ex.new hL)))) (hd4.ex (Ex.new hL)) ⟨L, rfl, upd_same⟩⟩,
        fun t r hf hr hi u H4 hu b4 hd4 h4 => ⟨sz_of (by simp), fun L hL => q.las d2 t r hf hr hi _ _ ((Bx.of (e12.trans e3)).trans (b4.trans (Bx.of (Ex.new hL)))) (hd4.ex (Ex.new hL)) ⟨L, u, rfl, upd_same, Ex.new hL _ _ h4⟩⟩⟩
    have d2 : deed ≠ 2 := by simpa using h2
    refine s_if (et_test (ev_op (ev_var rfl) ev_c (rv_eq rfl))) (fun h3 H3 e3 => ?_) (fun h3 H3 e3 => ?_)
    · have d3 : deed = 3 := by simpa using h3
      have e13 := (e1.trans e2).trans e3
      exact s_mAV (ev_var rfl) (e13 _ _ ho) rfl (ea_cons (ev_var rfl) (ea_cons (ev_var rfl) ea_nil)) fun H4 e4 => ⟨p, d, fs, n, z, rfl, hh.ex (e13.trans e4), fun hn H5 e5 => ⟨true, XL.exm sHL, fun _ a ha => ⟨.ref a, rfl, CH, rfl, rfl, rfl, true, .inl ⟨rfl, rfl⟩, fun q' H6 hq e6 h6 => q.bad hn _ H6 (((e13.trans e4).trans e5).trans e6) ⟨q', rfl, h6⟩⟩, fun q => nomatch q⟩,
        fun t r hf hz H5 e5 => ⟨true, XL.exm sNL, fun _ a ha => ⟨.ref a, rfl, CN, rfl, rfl, rfl, false, .inr ⟨rfl, rfl⟩, fun q' H6 hq e6 h6 => q.inv d3 t r hf hz _ H6 (((e13.trans e4).trans e5).trans e6) ⟨q', rfl, h6⟩⟩, fun q => nomatch q⟩,
        fun t r hf z0 z1 t' H5 ht b5 hd5 => (by dsimp only; exact s_retL (el_lst (ea_cons ev_c ea_nil) (by simp)) fun L H6 hL e6 h6 => q.mov d3 t r hf z0 z1 _ t' H6 ((Bx.of (e13.trans e4)).trans (b5.trans (Bx.of e6))) (hd5.ex e6) ⟨L, rfl, h6⟩)⟩
    have d3 : deed ≠ 3 := by simpa using h3
    have e13 := (e1.trans e2).trans e3
    exact r_mAl (ev_var rfl) (e13 _ _ ho) rfl (ea_cons (ev_var rfl) ea_nil) fun H4 e4 => ⟨p, d, fs, n, rfl, hh.ex (e13.trans e4), fun t r hf u H5 hu e5 h5 => ⟨sz_of (by simp), fun L hL => q.lup d1 d2 d3 t r hf _ _ (((e13.trans e4).trans e5).trans (Ex.new hL)) ⟨L, u, rfl, upd_same, Ex.new hL _ _ h5⟩⟩,
      fun hn H5 e5 => ⟨true, XL.exm sHL, fun _ a ha => ⟨.ref a, rfl, CH, rfl, rfl, rfl, true, .inl ⟨rfl, rfl⟩, fun q' H6 hq e6 h6 => q.bad hn _ H6 (((e13.trans e4).trans e5).trans e6) ⟨q', rfl, h6⟩⟩, fun q => nomatch q⟩⟩
end

end K53

set_option Elab.async false
set_option linter.all false
set_option maxRecDepth 100000
set_option maxHeartbeats 4000000
namespace K53
open PySem PySem.Spec PyProof.Rows L2 Evl LK LT LG LS LQ LX LO LN LP LH LV LD StX
/-! ### a deed, as the law's own dict asks it -/
theorem nd_inj {α β : Type} {f : α → β} : ∀ {l : List α} {a b : α}, (l.map f).Nodup → a ∈ l → b ∈ l → f a = f b → a = b
  | x :: l, a, b, h, ha, hb, e => by
    have h2 := List.nodup_cons.mp (show (f x :: l.map f).Nodup from h)
    rcases List.mem_cons.mp ha with rfl | ha'
    · rcases List.mem_cons.mp hb with rfl | hb'
      · rfl
      · exact absurd (List.mem_map.mpr ⟨b, hb', e.symm⟩) h2.1
    · rcases List.mem_cons.mp hb with rfl | hb'
      · exact absurd (List.mem_map.mpr ⟨a, ha', e⟩) h2.1
      · exact nd_inj h2.2 ha' hb' e
theorem Tl.adr {H : Hp} {d t : Addr} {gs : Fl} {n : Int} {r : Rw} (h : Tl H d gs) (hf : find gs n = some (t, r)) (r' : Rw) : (setRow gs n t r').map (fun g => (g.1, g.2.1)) = gs.map fun g => (g.1, g.2.1) := by
  unfold setRow
  rw [List.map_map]
  refine List.map_congr_left fun g hg => ?_
  show ((if g.1 = n then (n, t, r') else g).1, (if g.1 = n then (n, t, r') else g).2.1) = (g.1, g.2.1)
  by_cases e : g.1 = n
  · rw [if_pos e]
    have := nd_inj h.nd hg (find_mem hf) e
    rw [this]
  · rw [if_neg e]
theorem Tl.set {H H1 : Hp} {d t : Addr} {gs : Fl} {n : Int} {r : Rw} (h : Tl H d gs) (hf : find gs n = some (t, r)) (e : Ex H H1) (r' : Rw) : Tl (upd H1 t (.lst r'.v)) d (setRow gs n t r') := by
  have ht : H t = some (.lst r.v) := h.t _ (find_mem hf)
  have hdt : d ≠ t := fun c => by
    rw [← c, h.d] at ht
    cases ht
  have ha := h.adr hf r'
  have hk : kvsOf (setRow gs n t r') = kvsOf gs := by
    have := congrArg (List.map fun x : Int × Addr => ((Sum.inl x.1 : Key), V.ref x.2)) ha
    rw [List.map_map, List.map_map] at this
    exact this
  refine ⟨by rw [upd_ne hdt, hk]; exact e _ _ h.d, fun g hg => ?_, by rw [set_keys]; exact h.nd, ?_, by unfold setRow; rw [List.length_map]; exact h.l⟩
  · unfold setRow at hg
    obtain ⟨f, hfm, rfl⟩ := List.mem_map.mp hg
    by_cases c : f.1 = n
    · rw [if_pos c]
      exact upd_same
    · rw [if_neg c, upd_ne (fun c2 => c (congrArg (·.1) (nd_inj h.na hfm (find_mem hf) c2)))]
      exact e _ _ (h.t f hfm)
  · have := congrArg (List.map Prod.snd) ha
    rw [List.map_map, List.map_map] at this
    exact (show (setRow gs n t r').map (·.2.1) = gs.map (·.2.1) from this) ▸ h.na
theorem drop_set (gs : Fl) (n : Int) (t : Addr) (r' : Rw) : dropRow (setRow gs n t r') n = dropRow gs n := by
  unfold dropRow setRow
  induction gs with
  | nil => rfl
  | cons g gs ih =>
    rw [List.map_cons, List.filter_cons, List.filter_cons, ih]
    by_cases c : g.1 = n
    · rw [if_pos c, if_neg (by simp), if_neg (by simpa using c)]
    · rw [if_neg c]
theorem Tl.drop {H H1 : Hp} {d : Addr} {gs : Fl} {n : Int} (h : Tl H d gs) (e : Ex H H1) : Tl (upd H1 d (.dK (dropK (kvsOf gs) (.inl n)))) d (dropRow gs n) := by
  refine ⟨by rw [upd_same, drop_row], fun g hg => ?_, ?_, ?_, ?_⟩
  · have hg' := (List.mem_filter.mp hg).1
    have ht := h.t g hg'
    rw [upd_ne (fun c => by rw [c, h.d] at ht; cases ht)]
    exact e _ _ ht
  · exact h.nd.sublist (List.filter_sublist.map _)
  · exact h.na.sublist (List.filter_sublist.map _)
  · exact Nat.le_trans (List.length_filter_le _ _) h.l
structure DuQ (H : Hp) (Q : VK) (d : Addr) (gs : Fl) (deed n z : Int) : Prop where
  bad : find gs n = none → ∀ v H1, Ex H H1 → IsPl H1 v .bad → Q v H1
  add : deed = 1 → ∀ t r, find gs n = some (t, r) → ∀ v H1, Fr (fun a => a = t ∨ a = d) H H1 → Tl H1 d (setRow gs n t { r with refs := r.refs + 1 }) → IsPl H1 v .non → Q v H1
  sub : deed = 2 → ∀ t r, find gs n = some (t, r) → r.refs ≠ 1 → ∀ v H1, Fr (fun a => a = t ∨ a = d) H H1 → Tl H1 d (setRow gs n t { r with refs := r.refs - 1 }) → IsPl H1 v .non → Q v H1
  gon : deed = 2 → ∀ t r, find gs n = some (t, r) → r.refs = 1 → isO (dropRow gs n) r.vol r.ino = true → ∀ v H1, Fr (fun a => a = t ∨ a = d) H H1 → Tl H1 d (dropRow gs n) → IsPl H1 v .non → Q v H1
  las : deed = 2 → ∀ t r, find gs n = some (t, r) → r.refs = 1 → isO (dropRow gs n) r.vol r.ino = false → ∀ v H1, Fr (fun a => a = t ∨ a = d) H H1 → Tl H1 d (dropRow gs n) → IsPl H1 v (.pair r.vol r.ino) → Q v H1
  inv : deed = 3 → ∀ t r, find gs n = some (t, r) → (z < 0 ∨ z > 2048) → ∀ v H1, Ex H H1 → IsPl H1 v .inv → Q v H1
  mov : deed = 3 → ∀ t r, find gs n = some (t, r) → 0 ≤ z → z ≤ 2048 → ∀ v H1, Fr (fun a => a = t ∨ a = d) H H1 → Tl H1 d (setRow gs n t { r with pos := z }) → IsPl H1 v .non → Q v H1
  lup : deed ≠ 1 → deed ≠ 2 → deed ≠ 3 → ∀ t r, find gs n = some (t, r) → ∀ v H1, Ex H H1 → IsPl H1 v (.quad r) → Q v H1
def spDue : Sp := fun vs H Q _ => ∃ d gs deed n z, vs = [.ref d, .int deed, .int n, .int z] ∧ Tl H d gs ∧ DuQ H Q d gs deed n z
section
variable {K : PySem.W.Frag} {σ : L2.St} {H : Hp} {te td tk : TE} {D : Ends} {tz : TS} {d : Addr} {kvs : List (Key × V)} {z : Int} {v : V} {xs : List V}
theorem q_dpopU (hd : Ev td σ H (.ref d)) (hk : Ev tk σ H (.int z)) (h : H d = some (.dK kvs)) (hv : valV kvs (.inl z) = some v) (k : ∀ H1, Ex H H1 → tz D σ (upd H1 d (.dK (dropK kvs (.inl z))))) : tSeq (tDrop (tDPop1 td tk)) tz D σ H :=
  hd H (Ex.refl _) _ fun H1 e1 => ⟨d, rfl, .inl ⟨kvs, .inl (e1 _ _ h)⟩, hk H1 e1 _ fun H2 e2 => ⟨kvs, .inl z, v, (e1.trans e2) _ _ h, rfl, hv, k H2 (e1.trans e2)⟩⟩
theorem r_lstU (h : EvU te σ H xs) (k : ∀ L u H1, Ex H H1 → H1 u = some (.tup xs) → H1 L = some (.lst [.ref u]) → D.rt (.ref L) H1) : tRet (tLst (tCons te tNil)) D σ H :=
  h H (Ex.refl _) _ fun u H1 hu e1 h1 => ⟨sz_of (by simp), fun L hL => k L u _ (e1.trans (Ex.new hL)) (Ex.new hL _ _ h1) upd_same⟩
end
theorem fr_up {S : Addr → Prop} {H H1 : Hp} {t : Addr} {o : HO} (e : Ex H H1) (h : S t) : Fr S H (upd H1 t o) := fun a o' ha hS => by
  rw [upd_ne (fun c => hS (by rw [c]; exact h))]
  exact e _ _ ha
theorem fr_ex {S : Addr → Prop} {H H1 H2 : Hp} (f : Fr S H H1) (e : Ex H1 H2) : Fr S H H2 := fun a o ha hS => e _ _ (f a o ha hS)
theorem fr_fr {S : Addr → Prop} {H H1 H2 : Hp} (f : Fr S H H1) (g : Fr S H1 H2) : Fr S H H2 := fun a o ha hS => g a o (f a o ha hS) hS
section
variable {P : Program} {w : World} {K : PySem.W.Frag} {mg : Str → Option Value} {base : Heap} {C CN CH CL Pi Pu : Addr}
theorem ok_due {f f1 : Addr} {fd fd1 : FuncData} (F : Fun K "_law_due" "_law_due" sDue f fd) (FLo : Fun K "_law_open" "_law_open" sLop f1 fd1) (GLo : FnOk P w K mg base CX0 1 f1 fd1 ["files", "volume", "inode"] spLop) (bLo : Binds K fd1 ["files", "volume", "inode"] []) (gLo : mg "_law_open" = some (.ref f1)) (T : Txt mg K C) : FnOk P w K mg base CX0 2 f fd ["files", "deed", "number", "position"] spDue := by
  refine F.ok scDue (fun vs H Q E h => ?_) (fun cdv A outer s H vs Q E hr h => ?_)
  · obtain ⟨d, gs, deed, n, z, rfl, _⟩ := h
    rfl
  · obtain ⟨d, gs, deed, n, z, rfl, hT, q⟩ := h
    refine ⟨_, (pss_cons (ps_if (pt_cmp (pc_dnotin (hu_of hr) (pv 2) (pv 0))) (pss_one (ps_ret (pe_lst (pa_cons pe_str pa_nil)))) pss_nil)
      (pss_cons (ps_set (i := 4) scDue.nd rfl (Or.inl rfl) (pe_dget (hu_of hr) (pv 0) (pv 2) (fun _ _ => rfl)))
      (pss_cons (ps_if (pt_cmpR op_eq (pv 1) pe_int (nomark _)) (pss_one (ps_asg (pe_op op_add (pe_ix ix_list (pv 4) pe_int (fun _ _ => rfl)) pe_int) (pg_sub (pv 4) pe_int set_list))) (pss_one (ps_if (pt_cmpR op_eq (pv 1) pe_int (nomark _)) (pss_cons (ps_asg (pe_op op_sub (pe_ix ix_list (pv 4) pe_int (fun _ _ => rfl)) pe_int) (pg_sub (pv 4) pe_int set_list))
      (pss_one (ps_if (pt_cmpR op_eq (pe_ix ix_list (pv 4) pe_int (fun _ _ => rfl)) pe_int (nomark _)) (pss_cons (ps_expr (pe_dpop1 (pv 0) (pv 2) ⟨rfl, rfl, rfl, rfl⟩))
      (pss_one (ps_if (pt_not (pt_val (pe_call GLo (hr.mono (by decide)) (by rfl) gLo FLo.kp bLo .nil pass0 (pa_cons (pv 0) (pa_cons (pe_ix ix_list (pv 4) pe_int (fun _ _ => rfl)) (pa_cons (pe_ix ix_list (pv 4) pe_int (fun _ _ => rfl)) pa_nil)))))) (pss_one (ps_ret (pe_lst (pa_cons (pe_tup (pa_cons (pe_ix ix_list (pv 4) pe_int (fun _ _ => rfl)) (pa_cons (pe_ix ix_list (pv 4) pe_int (fun _ _ => rfl)) pa_nil))) pa_nil)))) pss_nil))) pss_nil))) (pss_one (ps_if (pt_cmpR op_eq (pv 1) pe_int (nomark _)) (pss_cons (ps_if (PW.pt (pw_or (pt_cmpR op_lt (pv 3) pe_int (nomark _)) (pw_or1 (pt_cmpR op_gt (pv 3) pe_int (nomark _))))) (pss_one (ps_ret (pe_lst (pa_cons pe_str pa_nil)))) pss_nil)
      (pss_one (ps_asg (pv 3) (pg_sub (pv 4) pe_int set_list)))) (pss_one (ps_ret (pe_lst (pa_cons (pe_tup (pa_cons (pe_ix ix_list (pv 4) pe_int (fun _ _ => rfl)) (pa_cons (pe_ix ix_list (pv 4) pe_int (fun _ _ => rfl)) (pa_cons (pe_ix ix_list (pv 4) pe_int (fun _ _ => rfl)) (pa_cons (pe_ix ix_list (pv 4) pe_int (fun _ _ => rfl)) pa_nil))))) pa_nil)))))))))
      (pss_one (ps_ret (pe_lst (pa_cons pe_non pa_nil))))))), ?_⟩
    refine q_when (b := !(find gs n).isSome) (et_is (et_B (ev_dNi (ev_var rfl) (ev_var rfl) hT.d)) (by rw [valV_kvs, Option.isSome_map])) (fun hb H1 e1 => ?_) (fun hb H1 e1 => ?_)
    · have hf : find gs n = none := by
        cases h : find gs n with
        | none => rfl
        | some x => rw [h] at hb; cases hb
      exact s_retL (el_lst (ea_cons ev_c ea_nil) (by simp)) fun L H2 hL e2 h2 => q.bad hf _ H2 (e1.trans e2) ⟨L, rfl, h2⟩
    obtain ⟨t, r, hf⟩ : ∃ t r, find gs n = some (t, r) := by
      cases h : find gs n with
      | none => rw [h] at hb; cases hb
      | some x => exact ⟨x.1, x.2, rfl⟩
    have ht : H t = some (.lst r.v) := hT.t _ (find_mem hf)
    refine q_asg (ev_dget (ev_var rfl) (ev_var rfl) (e1 _ _ hT.d) (by rw [valV_kvs, hf]; rfl)) fun H2 e2 => ?_
    have e12 := e1.trans e2
    refine q_if (et_test (ev_op (ev_var rfl) ev_c (rv_eq rfl))) (fun h1 H3 e3 => ?_) (fun h1 H3 e3 => ?_)
    · have d1 : deed = 1 := by simpa using h1
      have e13 := e12.trans e3
      refine s_setL (j := 4) (e13 _ _ ht) (ev_op (ev_op (ev_var rfl) ev_c (rv_ixL (sq_of (e13 _ _ ht)) (atI_nat (j := 4) rfl))) ev_c rv_I0) (ev_var rfl) ev_c (by show 4 < 5; decide) fun H4 e4 => ?_
      dsimp only
      exact s_retL (el_lst (ea_cons ev_c ea_nil) (by simp)) fun L H5 hL e5 h5 => q.add d1 t r hf _ H5 (fr_ex (fr_up (e13.trans e4) (.inl rfl)) e5) ((hT.set hf (e13.trans e4) { r with refs := r.refs + 1 }).ex e5) ⟨L, rfl, h5⟩
    have d1 : deed ≠ 1 := by simpa using h1
    have e13 := e12.trans e3
    refine s_if (et_test (ev_op (ev_var rfl) ev_c (rv_eq rfl))) (fun h2 H4 e4 => ?_) (fun h2 H4 e4 => ?_)
    · have d2 : deed = 2 := by simpa using h2
      have e14 := e13.trans e4
      refine q_setL (j := 4) (e14 _ _ ht) (ev_op (ev_op (ev_var rfl) ev_c (rv_ixL (sq_of (e14 _ _ ht)) (atI_nat (j := 4) rfl))) ev_c rv_I0) (ev_var rfl) ev_c (by show 4 < 5; decide) fun H5 e5 => ?_
      have t5 := hT.set hf (e14.trans e5) { r with refs := r.refs - 1 }
      have f5 : Fr (fun a => a = t ∨ a = d) H _ := fr_up (o := .lst ({ r with refs := r.refs - 1 } : Rw).v) (e14.trans e5) (.inl rfl)
      have h5 : upd H5 t (.lst ({ r with refs := r.refs - 1 } : Rw).v) t = some (.lst ({ r with refs := r.refs - 1 } : Rw).v) := upd_same
      refine s_when (et_test (ev_op (ev_op (ev_var rfl) ev_c (rv_ixL (sq_of h5) (atI_nat (j := 4) rfl))) ev_c (rv_eq rfl))) (fun h3 H6 e6 => ?_) (fun h3 H6 e6 => ?_)
      · have r1 : r.refs = 1 := by
          have : r.refs - 1 = 0 := by simpa using h3
          omega
        have t6 := t5.ex e6
        have hv : valV (kvsOf (setRow gs n t { r with refs := r.refs - 1 })) (.inl n) = some (.ref t) := by
          rw [← t6.d.symm.trans (e6 _ _ t5.d) |> Option.some.inj |> HO.dK.inj]
          have hk : kvsOf (setRow gs n t { r with refs := r.refs - 1 }) = kvsOf gs := by
            have := congrArg (List.map fun x : Int × Addr => ((Sum.inl x.1 : Key), V.ref x.2)) (hT.adr hf { r with refs := r.refs - 1 })
            rw [List.map_map, List.map_map] at this
            exact this
          rw [hk, valV_kvs, hf]
          rfl
        refine q_dpopU (ev_var rfl) (ev_var rfl) t6.d hv fun H7 e7 => ?_
        have t7 := t6.drop (n := n) e7
        rw [drop_set] at t7
        have f7 : Fr (fun a => a = t ∨ a = d) H _ := fr_fr (fr_ex f5 e6) (fr_up (o := .dK (dropK (kvsOf (setRow gs n t { r with refs := r.refs - 1 })) (.inl n))) e7 (.inr rfl))
        have hdt : t ≠ d := fun c => by
          rw [c, hT.d] at ht
          cases ht
        have h7 : upd H7 d (.dK (dropK (kvsOf (setRow gs n t { r with refs := r.refs - 1 })) (.inl n))) t = some (.lst ({ r with refs := r.refs - 1 } : Rw).v) := by
          rw [upd_ne hdt]
          exact e7 _ _ (e6 _ _ h5)
        refine s_when (b := !isO (dropRow gs n) r.vol r.ino) (et_not (et_B ?_)) (fun h4 H8 e8 => ?_) (fun h4 H8 e8 => ?_)
        · exact ev_call (vs := [.ref d, .str r.vol, .int r.ino]) (ea_cons (ev_var rfl) (ea_cons (ev_op (ev_var rfl) ev_c (rv_ixL (sq_of h7) (atI_nat (j := 0) rfl))) (ea_cons (ev_op (ev_var rfl) ev_c (rv_ixL (sq_of h7) (atI_nat (j := 1) rfl))) ea_nil))) (fun B eB Q' q' E' => ⟨d, dropRow gs n, r.vol, r.ino, rfl, t7.ex eB, q'⟩)
        · refine r_lstU (eu_tup (vs := [.str r.vol, .int r.ino]) (ea_cons (ev_op (ev_var rfl) ev_c (rv_ixL (sq_of (e8 _ _ h7)) (atI_nat (j := 0) rfl))) (ea_cons (ev_op (ev_var rfl) ev_c (rv_ixL (sq_of (e8 _ _ h7)) (atI_nat (j := 1) rfl))) ea_nil)) (Nat.le_of_ble_eq_true rfl)) fun L u H9 e9 hu hL => ?_
          exact q.las d2 t r hf r1 (by simpa using h4) _ H9 (fr_ex (fr_ex f7 e8) e9) (t7.ex (e8.trans e9)) ⟨L, u, rfl, hL, hu⟩
        · dsimp only
          exact s_retL (el_lst (ea_cons ev_c ea_nil) (by simp)) fun L H9 hL e9 h9 => q.gon d2 t r hf r1 (by simpa using h4) _ H9 (fr_ex (fr_ex f7 e8) e9) (t7.ex (e8.trans e9)) ⟨L, rfl, h9⟩
      · have r1 : r.refs ≠ 1 := by
          have : r.refs - 1 ≠ 0 := by simpa using h3
          omega
        dsimp only
        exact s_retL (el_lst (ea_cons ev_c ea_nil) (by simp)) fun L H7 hL e7 h7 => q.sub d2 t r hf r1 _ H7 (fr_ex (fr_ex f5 e6) e7) (t5.ex (e6.trans e7)) ⟨L, rfl, h7⟩
    have d2 : deed ≠ 2 := by simpa using h2
    have e14 := e13.trans e4
    refine s_if (et_test (ev_op (ev_var rfl) ev_c (rv_eq rfl))) (fun h3 H5 e5 => ?_) (fun h3 H5 e5 => ?_)
    · have d3 : deed = 3 := by simpa using h3
      have e15 := e14.trans e5
      refine q_when (b := decide (z < 0) || decide (z > 2048)) (et_or (et_test (ev_op (ev_var rfl) ev_c rv_I0)) (fun _ => et_test (ev_op (ev_var rfl) ev_c rv_I0))) (fun h4 H6 e6 => ?_) (fun h4 H6 e6 => ?_)
      · exact s_retL (el_lst (ea_cons ev_c ea_nil) (by simp)) fun L H7 hL e7 h7 => q.inv d3 t r hf (by simpa using h4) _ H7 ((e15.trans e6).trans e7) ⟨L, rfl, h7⟩
      · have hz : ¬ (z < 0 ∨ z > 2048) := by simpa using h4
        have e16 := e15.trans e6
        refine s_setL (j := 3) (e16 _ _ ht) (ev_var rfl) (ev_var rfl) ev_c (by show 3 < 5; decide) fun H7 e7 => ?_
        dsimp only
        exact s_retL (el_lst (ea_cons ev_c ea_nil) (by simp)) fun L H8 hL e8 h8 => q.mov d3 t r hf (by omega) (by omega) _ H8 (fr_ex (fr_up (e16.trans e7) (.inl rfl)) e8) ((hT.set hf (e16.trans e7) { r with pos := z }).ex e8) ⟨L, rfl, h8⟩
    have d3 : deed ≠ 3 := by simpa using h3
    have e15 := e14.trans e5
    refine r_lstU (eu_tup (vs := [.str r.vol, .int r.ino, .str r.mode, .int r.pos]) (ea_cons (ev_op (ev_var rfl) ev_c (rv_ixL (sq_of (e15 _ _ ht)) (atI_nat (j := 0) rfl))) (ea_cons (ev_op (ev_var rfl) ev_c (rv_ixL (sq_of (e15 _ _ ht)) (atI_nat (j := 1) rfl))) (ea_cons (ev_op (ev_var rfl) ev_c (rv_ixL (sq_of (e15 _ _ ht)) (atI_nat (j := 2) rfl))) (ea_cons (ev_op (ev_var rfl) ev_c (rv_ixL (sq_of (e15 _ _ ht)) (atI_nat (j := 3) rfl))) ea_nil)))) (Nat.le_of_ble_eq_true rfl)) fun L u H6 e6 hu hL => ?_
    exact q.lup d1 d2 d3 t r hf _ H6 (e15.trans e6) ⟨L, u, rfl, hL, hu⟩
end

end K53

set_option Elab.async false
set_option linter.all false
set_option maxRecDepth 100000
set_option maxHeartbeats 4000000
namespace K53
open PySem PySem.Spec PyProof.Rows L2 Evl LK LT LG LS LQ LX LO LN LP LH LV LD StX
/-! ### rules for the law's look -/
section
variable {K : PySem.W.Frag} {σ : L2.St} {H : Hp} {t : TT} {te tl : TE} {tz : TS} {D : Ends} {d : Addr} {kvs : List (Key × V)} {j m : Nat} {vs : List Nat}
/-- y = [e for k in d if t] -/
theorem q_lcK (hd : H d = some (.dK kvs)) (hl : ∀ od, Ev tl σ (upd H d (.frz od (.dK kvs))) (.ref d)) (f : Nat → Bool) (v : Nat → V) (hz : kvs.length ≤ 40000) (hw : ∀ x, wipe ((wipe σ vs).set j (some x)) vs = wipe σ vs)
    (ht : ∀ od (i : Nat) k x H2, Ex (upd H d (.frz od (.dK kvs))) H2 → kvs[i]? = some (k, x) → EvT t ((wipe σ vs).set j (some (kV k))) H2 (f i))
    (he : ∀ od (i : Nat) k x H2, Ex (upd H d (.frz od (.dK kvs))) H2 → kvs[i]? = some (k, x) → f i = true → Ev te ((wipe σ vs).set j (some (kV k))) H2 (v i))
    (kk : ∀ L H1, H L = none → Ex H H1 → H1 L = some (.lst (given kvs.length f v)) → tz D (σ.set m (some (.ref L))) H1) : tSeq (tLock (tAsg (tLc (iKeys tl) (gName j) t te vs) (gName m))) tz D σ H :=
  ⟨d, .dK kvs, hd, True.intro, fun od => hl od _ (Ex.refl _) _ fun H1 e1 => ⟨d, od, rfl, .inl ⟨kvs, e1 _ _ upd_same, fun Dl hD => lc_it walk_keys (Cw H1 f v Dl) ⟨hD, Ex.new hD, upd_same⟩ (fun i H' _ p => p.2.1 _ _ (e1 _ _ upd_same)) (fun i x H' H2 hi p y => by
    obtain ⟨rfl, k, v', hk, rfl⟩ := y
    exact ⟨hw _, cw_turn p (by omega) (ht od i k v' H1 e1 hk) (fun hf => he od i k v' H1 e1 hk hf)⟩) (fun H' p => by
    have hb := fresh_back e1 p.1
    have hne : Dl ≠ d := fun c => by rw [c, upd_same] at hb; cases hb
    rw [upd_ne hne] at hb
    exact ⟨p.2.1 _ _ (e1 _ _ upd_same), kk Dl _ hb (ex_unlock hd (e1.trans p.2.1)) (by rw [upd_ne hne]; exact p.2.2)⟩)⟩⟩⟩
theorem el_listD (h : Ev te σ H (.ref d)) (hd : H d = some (.dK kvs)) : EvL (tCB (fun xs H Q => ∃ (a : Addr) (kvs : List (Key × V)), xs = [.ref a] ∧ Rd H a (.dK kvs) ∧ ∀ p, H p = none → Q (.ref p) (upd H p (.lst (kvs.map fun kv => kV kv.1)))) (tCons te tNil)) σ H (kvs.map fun kv => kV kv.1) := fun H1 e Q q =>
  h H1 e _ fun H2 e2 => ⟨d, kvs, rfl, .inl (e2 _ _ (e _ _ hd)), fun p hp => q p _ (fresh_back e2 hp) (e2.trans (Ex.new hp)) upd_same⟩
theorem el_sortedL {ks ns : List Int} (h : EvL te σ H (ks.map V.int)) (h64 : ks.length < 64) (hs : ∀ ys : List Int, ys.Perm ks → ys.Pairwise (· ≤ ·) → ys = ns) : EvL (tCB (rSorted K) (tCons te tNil)) σ H (ns.map V.int) := fun H1 e Q q =>
  h H1 e _ fun a H2 ha e2 h2 => ⟨a, ks, rfl, sq_of h2, h64, fun ys p h1 hs2 hp => q p _ (fresh_back e2 hp) (e2.trans (Ex.new hp)) (by rw [upd_same, hs ys h1 hs2])⟩
theorem rv_isnb {a b : Bool} : RV (fun x y H Q => ∃ a b, x = .bl a ∧ y = .bl b ∧ Q (.bl (!decide (a = b))) H) (.bl a) (.bl b) H (.bl (!decide (a = b))) := rv_val fun _ _ Q q => ⟨a, b, rfl, rfl, q⟩
/-- a tuple and another, both new -/
theorem eu_cat {ta tb : TE} {xs ys : List V} (ha : EvU ta σ H xs) (hb : EvU tb σ H ys) (hx : xs ≠ []) (hy : ys ≠ []) (hz : xs.length + ys.length ≤ 100000) : EvU (tOp (rCatT K) ta tb) σ H (xs ++ ys) := fun H1 e Q q =>
  ha H1 e _ fun p H2 hp e2 h2 => hb H2 (e.trans e2) _ fun r H3 hr e3 h3 => ⟨p, r, xs, ys, rfl, rfl, st_of (e3 _ _ h2), st_of h3, hx, sz_of hz, fun h => absurd h hy, fun _ u hu => q u _ (fresh_back (e2.trans e3) hu) ((e2.trans e3).trans (Ex.new hu)) upd_same⟩
end
/-! ### the two lists of rows agree -/
def ab (fs : Fl) : List (Int × Rw) := fs.map fun f => (f.1, f.2.2)
theorem find_ab (n : Int) : ∀ fs : Fl, (find fs n).map (·.2) = ((ab fs).find? fun x => decide (x.1 = n)).map (·.2)
  | [] => rfl
  | f :: fs => by
    have ih := find_ab n fs
    unfold find ab at *
    by_cases h : f.1 = n
    · rw [List.find?_cons_of_pos (by simpa using h), List.map_cons, List.find?_cons_of_pos (by simpa using h)]
      rfl
    · rw [List.find?_cons_of_neg (by simpa using h), List.map_cons, List.find?_cons_of_neg (by simpa using h)]
      exact ih
theorem ab_find {fs gs : Fl} (h : ab fs = ab gs) {n : Int} {t : Addr} {r : Rw} (hf : find gs n = some (t, r)) : ∃ t', find fs n = some (t', r) := by
  have h1 := find_ab n fs
  rw [h, ← find_ab n gs, hf] at h1
  obtain ⟨x, hx, hr⟩ := Option.map_eq_some_iff.mp h1
  have hr' : x.2 = r := hr
  exact ⟨x.1, by rw [hx, ← hr']⟩
theorem ab_none {fs gs : Fl} (h : ab fs = ab gs) {n : Int} (hf : find gs n = none) : find fs n = none := by
  cases hx : find fs n with
  | none => rfl
  | some x =>
    obtain ⟨t', ht⟩ := ab_find h.symm (t := x.1) (r := x.2) hx
    rw [hf] at ht
    cases ht
theorem ab_keys {fs gs : Fl} (h : ab fs = ab gs) : keysN fs = keysN gs := by
  have := congrArg (List.map Prod.fst) h
  unfold ab at this
  rw [List.map_map, List.map_map] at this
  exact this
theorem ab_isO {fs gs : Fl} (h : ab fs = ab gs) (v : Str) (i : Int) : isO fs v i = isO gs v i := by
  have h1 : ∀ fs : Fl, isO fs v i = (ab fs).any fun x => decide (x.2.vol = v) && decide (x.2.ino = i) := fun fs => by
    unfold isO ab
    rw [List.any_map]
    rfl
  rw [h1, h1, h]
theorem ab_set {fs : Fl} (n : Int) (t : Addr) (r : Rw) : ab (setRow fs n t r) = (ab fs).map fun x => if x.1 = n then (n, r) else x := by
  unfold ab setRow
  rw [List.map_map, List.map_map]
  refine List.map_congr_left fun f _ => ?_
  show ((if f.1 = n then (n, t, r) else f).1, (if f.1 = n then (n, t, r) else f).2.2) = if f.1 = n then (n, r) else (f.1, f.2.2)
  by_cases h : f.1 = n
  · rw [if_pos h, if_pos h]
  · rw [if_neg h, if_neg h]
theorem ab_drop {fs : Fl} (n : Int) : ab (dropRow fs n) = (ab fs).filter fun x => decide (x.1 ≠ n) := by
  unfold ab dropRow
  rw [List.filter_map]
  rfl
def rowD (n : Int) (r : Rw) : PyData := .tuple [.int n, .str r.vol, .int r.ino, .str r.mode, .int r.pos, .int r.refs]
theorem sh_row {n : Int} {r : Rw} (h : r.Ok) : Sh 1 (rowD n r) := sh_tup fun d hd => by
  rcases List.mem_cons.mp hd with rfl | hd
  · exact sh_int _
  rcases List.mem_cons.mp hd with rfl | hd
  · exact sh_str h.1
  rcases List.mem_cons.mp hd with rfl | hd
  · exact sh_int _
  rcases List.mem_cons.mp hd with rfl | hd
  · exact sh_str h.2
  rcases List.mem_cons.mp hd with rfl | hd
  · exact sh_int _
  rcases List.mem_cons.mp hd with rfl | hd
  · exact sh_int _
  · cases hd

end K53

set_option Elab.async false
set_option linter.all false
set_option maxRecDepth 100000
set_option maxHeartbeats 4000000
namespace K53
open PySem PySem.Spec PyProof.Rows L2 Evl LK LT LG LS LQ LX LO LN LP LH LV LD StX
/-! ### the rows that the law puts together -/
def sS (p e R : Addr) (y : Option V) : L2.St := [some (.ref p), some (.ref e), some (.ref R), y, none, none, none, none, none]
def RowsAt (gs : Fl) (ns : List Int) (ys : List V) (B : Hp) : Prop := ∀ (i : Nat) (y : V), ys[i]? = some y → ∃ u t r, y = .ref u ∧ find gs (ns.getD i 0) = some (t, r) ∧ B u = some (.tup (.int (ns.getD i 0) :: r.v))
def rowOf (fs : Fl) (n : Int) : Rw := ((find fs n).map (·.2)).getD ⟨"", 0, "", 0, 0⟩
theorem rowOf_ab {fs gs : Fl} (h : ab fs = ab gs) (n : Int) : rowOf fs n = rowOf gs n := by
  unfold rowOf
  rw [find_ab, find_ab, h]
theorem dp_rows {K : PySem.W.Frag} {B : Hp} {gs : Fl} : ∀ {ys : List V} {ns : List Int}, ys.length = ns.length → RowsAt gs ns ys B → DpAll K B ys (ns.map fun n => rowD n (rowOf gs n))
  | [], [], _, _ => .nil
  | y :: ys, n :: ns, hl, h => by
    obtain ⟨u, t, r, rfl, hf, hu⟩ := h 0 y rfl
    have hf' : find gs n = some (t, r) := hf
    have hr : rowOf gs n = r := by
      unfold rowOf
      rw [hf']
      rfl
    refine .cons ?_ (dp_rows (by simpa using hl) fun i y hy => h (i + 1) y hy)
    show Dp K B (.ref u) (rowD n (rowOf gs n))
    rw [hr]
    exact .tup (st_of hu) (.cons (.int _) (.cons (.str _) (.cons (.int _) (.cons (.str _) (.cons (.int _) (.cons (.int _) .nil))))))
theorem sort_ex (ks : List Int) : ∃ ns : List Int, ns.Perm ks ∧ ns.Pairwise (· ≤ ·) := by
  induction ks with
  | nil => exact ⟨[], .nil, .nil⟩
  | cons k ks ih =>
    obtain ⟨ns, h1, h2⟩ := ih
    have ins : ∀ l : List Int, l.Pairwise (· ≤ ·) → ∃ m : List Int, m.Perm (k :: l) ∧ m.Pairwise (· ≤ ·) := by
      intro l
      induction l with
      | nil => exact fun _ => ⟨[k], .refl _, List.pairwise_singleton _ _⟩
      | cons x l ih =>
        intro h
        obtain ⟨hx, hl⟩ := List.pairwise_cons.mp h
        by_cases c : k ≤ x
        · refine ⟨k :: x :: l, .refl _, List.pairwise_cons.mpr ⟨fun y hy => ?_, h⟩⟩
          rcases List.mem_cons.mp hy with rfl | hy
          · exact c
          · exact Int.le_trans c (hx y hy)
        · obtain ⟨m, m1, m2⟩ := ih hl
          refine ⟨x :: m, (m1.cons x).trans (List.Perm.swap k x l), List.pairwise_cons.mpr ⟨fun y hy => ?_, m2⟩⟩
          rcases List.mem_cons.mp (m1.mem_iff.mp hy) with rfl | hy
          · omega
          · exact hx y hy
    obtain ⟨m, m1, m2⟩ := ins ns h2
    exact ⟨m, m1.trans (h1.cons k), m2⟩
section
variable {K : PySem.W.Frag} {H H0 : Hp} {tl te : TE} {tz : TS} {D : Ends} {p e R : Addr} {gs : Fl} {ns : List Int} {y3 : Option V}
theorem q_rows (hR : H0 R = none) (e0 : Ex H0 H) (hr : H R = some (.lst [])) (hn : ∀ n ∈ ns, ∃ t r, find gs n = some (t, r)) (hl : ns.length ≤ 1000)
    (hs : EvL tl (sS p e R y3) H (ns.map V.int)) (he : ∀ n t r B, find gs n = some (t, r) → Ex H0 B → EvU te (sS p e R (some (.int n))) B (.int n :: r.v))
    (k : ∀ y ys B, Ex H0 B → B R = some (.lst ys) → ys.length = ns.length → RowsAt gs ns ys B → tz D (sS p e R y) B) :
    tSeq (tFor (iList K tl) (gName 3) (tDrop (tBM K "list" rAppend (tVar 2) (tCons te tNil)))) tz D (sS p e R y3) H := by
  refine q_forNLn hs (fun P i σ' B => ∃ y ys, σ' = sS p e R y ∧ Ex H0 B ∧ P ≠ R ∧ B P = some (.lst (ns.map V.int)) ∧ B R = some (.lst ys) ∧ ys.length = i ∧ RowsAt gs ns ys B) (fun P H1 hP e1 h1 => ⟨y3, [], rfl, e0.trans e1, (fun c => by rw [c, hr] at hP; cases hP), h1, e1 _ _ hr, rfl, fun i y h => by simp at h⟩) (fun P i σ' B _ h => ?_) (fun P i x σ' B hx h => ?_) (fun P σ' B h => ?_)
  · obtain ⟨y, ys, rfl, eB, hne, hP, hRl, hlen, hrows⟩ := h
    exact sq_of hP
  · obtain ⟨y, ys, rfl, eB, hne, hP, hRl, hlen, hrows⟩ := h
    rw [List.getElem?_map] at hx
    obtain ⟨n, hni, rfl⟩ := Option.map_eq_some_iff.mp hx
    obtain ⟨t, r, hf⟩ := hn n (List.mem_of_getElem? hni)
    have hi : i < ns.length := (List.getElem?_eq_some_iff.mp hni).1
    have hg : ns.getD i 0 = n := by rw [List.getD_eq_getElem?_getD, hni]; rfl
    refine s_appU hRl (ev_var rfl) (he n t r B hf eB) (by omega) fun u B1 hu e1 h1 => ⟨some (.int n), ys ++ [.ref u], rfl, ex_n hR (eB.trans e1), hne, by rw [upd_ne hne]; exact e1 _ _ hP, upd_same, by rw [List.length_append, hlen]; rfl, fun k y hk => ?_⟩
    by_cases c : k < ys.length
    · rw [List.getElem?_append_left c] at hk
      obtain ⟨u', t', r', rfl, hf', hu'⟩ := hrows k y hk
      exact ⟨u', t', r', rfl, hf', by rw [upd_ne (fun c => by rw [c, hRl] at hu'; cases hu')]; exact e1 _ _ hu'⟩
    · have hk1 : k = i := by
        have := (List.getElem?_eq_some_iff.mp hk).1
        rw [List.length_append, List.length_singleton] at this
        omega
      subst hk1
      rw [List.getElem?_append_right (by omega), hlen, Nat.sub_self] at hk
      cases hk
      exact ⟨u, t, r, rfl, by rw [hg]; exact hf, by rw [hg, upd_ne (fun c => by rw [c, hRl] at hu; cases hu)]; exact h1⟩
  · obtain ⟨y, ys, rfl, eB, hne, hP, hRl, hlen, hrows⟩ := h
    exact k y ys B eB hRl (by simpa using hlen) hrows
end

end K53

set_option Elab.async false
set_option linter.all false
set_option maxRecDepth 100000
set_option maxHeartbeats 4000000
namespace K53
open PySem PySem.Spec PyProof.Rows L2 Evl LK LT LG LS LQ LX LO LN LP LH LV LD StX
/-! ### more rules for the law's look -/
section
variable {K : PySem.W.Frag} {σ : L2.St} {H : Hp} {g : TG} {ta : TE} {t : TA} {tu tz : TS} {D : Ends} {C p dx : Addr} {fs : List (Str × V)} {m : Str} {sp : Sp} {vs : List V}
/-- for over a new tuple -/
theorem q_forNT {xs : List V} {tl : TE} (h : EvU tl σ H xs) (Pv : Addr → Nat → L2.St → Hp → Prop) (h0 : ∀ p H1, H p = none → Ex H H1 → H1 p = some (.tup xs) → Pv p 0 σ H1) (hl : ∀ p i σ' H', i ≤ xs.length → Pv p i σ' H' → SqT K H' p xs)
    (hs : ∀ p i x σ' H', xs[i]? = some x → Pv p i σ' H' → g x σ' H' fun σ2 H2 => tu { D with nx := Pv p (i + 1), ct := Pv p (i + 1), bk := tz D } σ2 H2) (hd : ∀ p σ' H', Pv p xs.length σ' H' → tz D σ' H') : tSeq (tFor (iTup K tl) g tu) tz D σ H :=
  h H (Ex.refl H) _ fun p H1 hp e h1 => ⟨p, rfl, ⟨xs, st_of h1⟩, for_tup (D := { D with nx := tz D }) (Pv p) (h0 p H1 hp e h1) (hl p) (hs p) (hd p)⟩
/-- y = p.m(..) -/
theorem q_mS {i : Nat} {E : XK} (ha : Ev ta σ H (.ref p)) (hi : H p = some (.ins C dx fs)) (hl : fs.lookup m = none) (ht : EvA t σ H vs) (k : ∀ H1, Ex H H1 → sp (.ref p :: vs) H1 (fun v H2 => tz D (σ.set i (some v)) H2) E) : tSeq (tAsg (tMeth C m sp [] E ta t) (gName i)) tz D σ H :=
  m_run (Q := fun v H2 => tz D (σ.set i (some v)) H2) ha hi hl ht k
end
theorem ab_isU {fs gs : Fl} (h : ab fs = ab gs) (v : Str) : isU fs v = isU gs v := by
  have h1 : ∀ fs : Fl, isU fs v = (ab fs).any fun x => decide (x.2.vol = v) := fun fs => by
    unfold isU ab
    rw [List.any_map]
    rfl
  rw [h1, h1, h]
/-- the numbers of a volume: empty, if and only if the volume is not used -/
theorem used_nil {gs : Fl} {vol : Str} {f : Nat → Bool} {v : Nat → V} (hf : ∀ i g, gs[i]? = some g → f i = decide (g.2.2.vol = vol)) : (given gs.length f v).isEmpty = !isU gs vol := by
  cases hu : isU gs vol with
  | true =>
    unfold isU at hu
    obtain ⟨g, hg, hv⟩ := List.any_eq_true.mp hu
    obtain ⟨i, hi⟩ := List.mem_iff_getElem?.mp hg
    have hlt := (List.getElem?_eq_some_iff.mp hi).1
    have hm : v i ∈ given gs.length f v := List.mem_map.mpr ⟨i, List.mem_filter.mpr ⟨List.mem_range.mpr hlt, by rw [hf i g hi]; exact hv⟩, rfl⟩
    cases hc : given gs.length f v with
    | nil => rw [hc] at hm; cases hm
    | cons a b => rfl
  | false =>
    have hn : given gs.length f v = [] := by
      unfold given
      rw [List.map_eq_nil_iff, List.filter_eq_nil_iff]
      intro i hi hc
      have hlt := List.mem_range.mp hi
      have hg : gs[i]? = some gs[i] := List.getElem?_eq_getElem hlt
      rw [hf i _ hg] at hc
      have : isU gs vol = true := List.any_eq_true.mpr ⟨_, List.mem_of_getElem? hg, hc⟩
      rw [hu] at this
      cases this
    rw [hn]
    rfl

end K53

set_option Elab.async false
set_option linter.all false
set_option maxRecDepth 100000
set_option maxHeartbeats 4000000
namespace K53
open PySem PySem.Spec PyProof.Rows L2 Evl LK LT LG LS LQ LX LO LN LP LH LV LD StX
section
variable {K : PySem.W.Frag} {σ : L2.St} {H : Hp} {te : TE}
theorem eu_tupR {a : Addr} {xs : List V} (h : Ev te σ H (.ref a)) (hs : SqL K H a xs) : EvU (tCB (fun zs H Q => ∃ p ys, zs = [.ref p] ∧ ((SqL K H p ys ∧ ∀ l, H l = none → Q (.ref l) (upd H l (.tup ys))) ∨ (SqT K H p ys ∧ Q (.ref p) H))) (tCons te tNil)) σ H xs := fun H1 e Q q =>
  h H1 e _ fun H2 e2 => ⟨a, xs, rfl, .inl ⟨ex_l (e.trans e2) hs, fun l hl => q l _ (fresh_back e2 hl) (e2.trans (Ex.new hl)) upd_same⟩⟩
end
section
variable {K : PySem.W.Frag} {σ : L2.St} {H : Hp} {tu tz : TS} {D : Ends}
theorem q_forNTn {xs : List V} {tl : TE} {j : Nat} (h : EvU tl σ H xs) (Pv : Addr → Nat → L2.St → Hp → Prop) (h0 : ∀ p H1, H p = none → Ex H H1 → H1 p = some (.tup xs) → Pv p 0 σ H1) (hl : ∀ p i σ' H', i ≤ xs.length → Pv p i σ' H' → SqT K H' p xs)
    (hs : ∀ p i x σ' H', xs[i]? = some x → Pv p i σ' H' → tu { D with nx := Pv p (i + 1), ct := Pv p (i + 1), bk := tz D } (σ'.set j (some x)) H') (hd : ∀ p σ' H', Pv p xs.length σ' H' → tz D σ' H') : tSeq (tFor (iTup K tl) (gName j) tu) tz D σ H :=
  q_forNT h Pv h0 hl hs hd
end
/-! ### the law's look -/
def spShw (C Pi Pu : Addr) : Sp := fun vs H Q _ => ∃ p d e fs gs, vs = [.ref p, .ref e] ∧ Hd C H p d fs ∧ Tl H e gs ∧ ab fs = ab gs ∧ fs.length < 64 ∧ Tab H Pi ∧ Tab H Pu ∧ RetV (.bl true) H Q
theorem dp_used {K : PySem.W.Frag} (gs : Fl) (f : Nat → Bool) : ∃ ds : List PyData, (∀ B, DpAll K B (given gs.length f fun i => match gs[i]? with | some g => .int g.1 | none => .non) ds) ∧ Sh 1 (.list ds) ∧ ds.isEmpty = (given gs.length f fun i => match gs[i]? with | some g => V.int g.1 | none => V.non).isEmpty := by
  unfold given
  generalize (List.range gs.length).filter f = l
  induction l with
  | nil => exact ⟨[], fun _ => .nil, sh_lst (fun x hx => by cases hx), rfl⟩
  | cons i l ih =>
    obtain ⟨ds, h1, h2, h3⟩ := ih
    have hd : ∃ x : PyData, (∀ B, Dp K B (match gs[i]? with | some g => V.int g.1 | none => V.non) x) ∧ Sh 0 x := by
      cases gs[i]? with
      | none => exact ⟨.none, fun _ => .non, sh_none⟩
      | some g => exact ⟨.int g.1, fun _ => .int _, sh_int _⟩
    obtain ⟨x, x1, x2⟩ := hd
    refine ⟨x :: ds, fun B => .cons (x1 B) (h1 B), ?_, rfl⟩
    have hc := h2.1
    have hdp := h2.2
    rw [PyData.canLay0] at hc
    rw [PyData.depth] at hdp
    exact ⟨by rw [PyData.canLay0, PyData.canLayAll0, x2.1, hc]; rfl, by rw [PyData.depth, PyData.depthAll]; have := x2.2; omega⟩
section
variable {P : Program} {w : World} {K : PySem.W.Frag} {mg : Str → Option Value} {base : Heap} {C CN CH CL Pi Pu : Addr}
theorem ok_shw {f f1 f2 f3 f4 : Addr} {fd fd1 fd2 fd3 fd4 : FuncData} (F : Fun K "_law_shows" "_law_shows" sShw f fd)
    (Gopen_files : FnOk P w K mg base CX0 1 f1 fd1 ["self"] (spOpf C)) (bopen_files : Binds K fd1 ["self"] []) (mopen_files : Meth K C "open_files" f1)
    (Guses_volume : FnOk P w K mg base CX0 3 f2 fd2 ["self", "volume"] (spUsv C Pu)) (buses_volume : Binds K fd2 ["self", "volume"] []) (muses_volume : Meth K C "uses_volume" f2)
    (Gis_open : FnOk P w K mg base CX0 3 f3 fd3 ["self", "volume", "inode"] (spIso C Pi)) (bis_open : Binds K fd3 ["self", "volume", "inode"] []) (mis_open : Meth K C "is_open" f3)
    (FLo : Fun K "_law_open" "_law_open" sLop f4 fd4) (GLo : FnOk P w K mg base CX0 1 f4 fd4 ["files", "volume", "inode"] spLop) (bLo : Binds K fd4 ["files", "volume", "inode"] []) (gLo : mg "_law_open" = some (.ref f4)) (T : Txt mg K C) : FnOk P w K mg base CX0 4 f fd ["handles", "files"] (spShw C Pi Pu) := by
  refine F.ok scShw (fun vs H Q E h => ?_) (fun cdv A outer s H vs Q E hr h => ?_)
  · obtain ⟨p, d, e, fs, gs, rfl, _⟩ := h
    rfl
  · obtain ⟨p, d, e, fs, gs, rfl, hh, hT, hab, h64, hPi, hPu, q⟩ := h
    obtain ⟨dx, ho, hTt, hdp⟩ := id hh
    refine ⟨_, (pss_cons (ps_set (i := 2) scShw.nd rfl (Or.inl rfl) (pe_lst pa_nil))
      (pss_cons (ps_for PassesOwn.never rfl (pi_list (pe_callB cr_sorted (by rfl) T.sorted (by decide +kernel) (pa_cons (pe_callTy (call_listD rfl) (by rfl) T.list (by decide +kernel) (pa_cons (pv 1) pa_nil)) pa_nil))) (pg_name (i := 3) scShw.nd rfl (Or.inl rfl)) (pss_one (ps_expr (pe_bm PySem.F.plainAttrs_list PySem.F.slot_list_append PySem.F.type_list_append mt_append (pv 2) (pa_cons (pe_op op_catT (pe_tup (pa_cons (pv 3) pa_nil)) (pe_callTy call_tuple_of (by rfl) T.tuple (by decide +kernel) (pa_cons (pe_dget (hu_of hr) (pv 1) (pv 3) (fun _ _ => rfl)) pa_nil))) pa_nil)))))
      (pss_cons (ps_set (i := 4) scShw.nd rfl (Or.inl rfl) (pe_meth0 (pv 0) T.cl mopen_files Gopen_files (hr.mono (by decide)) bopen_files .nil pass0))
      (pss_cons (ps_if (PW.pt (pw_or (pt_not (pt_val (pe_callB call_isi (by rfl) T.isinstance (by decide +kernel) (pa_cons (pv 4) (pa_cons (pe_bltn (v := .ty "list") (u := .type "list") (by rfl) T.list (by decide +kernel) rfl) pa_nil))))) (pw_or1 (pt_cmpR (op_neD hr.units) (pv 4) (pv 2) (nomark _))))) (pss_one (ps_ret pe_bl)) pss_nil)
      (pss_cons (ps_for PassesOwn.never rfl (pi_tup (pe_tup (pa_cons pe_str (pa_cons pe_str (pa_cons pe_str pa_nil))))) (pg_name (i := 5) scShw.nd rfl (Or.inr rfl)) (pss_cons (ps_lock (ps_setLc (i := 6) (own := [("number", 3)]) (g := gName 3) rfl scShw.nd rfl rfl (sw_true rfl rfl rfl (by decide +kernel)) (pi_keys (pv 1)) (blkOk_by (own := [("number", 3)]) (N := ["handles", "files", "rows", "number", "actual", "volume", "used", "inode", "known"]) (sc := defScope sShw) (by decide +kernel)) (fun _ _ _ _ _ => pg_name (i := 3) scShw.nd rfl (Or.inl rfl)) (fun _ _ _ _ _ => (pts_one (pt_cmpR op_eq (pe_ix (r := rIxL K) ix_list (pe_dget (hu_of hr) (pv 1) (pv 3) (fun _ _ => rfl)) pe_int (fun _ _ => rfl)) (pv 5) (nomark _)))) (fun _ _ _ _ _ => (pv 3))))
      (pss_cons (ps_if (PW.pt (pw_and (pt_cmpR op_isnot_bl (pe_meth (pv 0) T.cl muses_volume Guses_volume (hr.mono (by decide)) buses_volume .nil pass0 (pa_cons (pv 5) pa_nil)) pe_bl (nomark _)) (pw_and1 (pt_cmpR (op_eqD hr.units) (pv 6) (pe_lst pa_nil) (nomark _))))) (pss_one (ps_ret pe_bl)) pss_nil)
      (pss_cons (ps_if (PW.pt (pw_and (pt_cmpR op_isnot_bl (pe_meth (pv 0) T.cl muses_volume Guses_volume (hr.mono (by decide)) buses_volume .nil pass0 (pa_cons (pv 5) pa_nil)) pe_bl (nomark _)) (pw_and1 (pt_cmpR (op_neD hr.units) (pv 6) (pe_lst pa_nil) (nomark _))))) (pss_one (ps_ret pe_bl)) pss_nil)
      (pss_one (ps_for PassesOwn.never rfl (pi_range2 (by rfl) T.range (pa_cons pe_int (pa_cons pe_int pa_nil))) (pg_name (i := 7) scShw.nd rfl (Or.inl rfl)) (pss_cons (ps_set (i := 8) scShw.nd rfl (Or.inl rfl) (pe_meth (pv 0) T.cl mis_open Gis_open (hr.mono (by decide)) bis_open .nil pass0 (pa_cons (pv 5) (pa_cons (pv 7) pa_nil))))
      (pss_one (ps_if (PW.pt (pw_or (pt_not (pt_val (pe_callB call_isi (by rfl) T.isinstance (by decide +kernel) (pa_cons (pv 8) (pa_cons (pe_bltn (v := .ty "bool") (u := .type "bool") (by rfl) T.bool (by decide +kernel) rfl) pa_nil))))) (pw_or1 (pt_cmpR op_ne (pv 8) (pe_call GLo (hr.mono (by decide)) (by rfl) gLo FLo.kp bLo .nil pass0 (pa_cons (pv 1) (pa_cons (pv 5) (pa_cons (pv 7) pa_nil)))) (nomark _))))) (pss_one (ps_ret pe_bl)) pss_nil)))))))))
      (pss_one (ps_ret pe_bl))))))), ?_⟩
    obtain ⟨ns, hp, hs⟩ := sort_ex (keysN gs)
    have hnl : ns.length = gs.length := by rw [hp.length_eq]; unfold keysN; rw [List.length_map]
    have hfg : fs.length = gs.length := by
      have := congrArg List.length hab
      unfold ab at this
      rw [List.length_map, List.length_map] at this
      exact this
    refine q_asgL (el_lst ea_nil (by simp)) fun R H1 hR e1 h1 => ?_
    refine q_rows (p := p) (e := e) (R := R) (gs := gs) (ns := ns) (y3 := none) hR e1 h1 (fun n hn => ?_) (by rw [hnl]; exact hT.l) (el_sortedL (ks := keysN gs) ?_ (by unfold keysN; rw [List.length_map]; omega) (fun ys a b => sorted_uni (a.trans hp.symm) b hs)) (fun n t r B hf eB => ?_) (fun y ys B eB hRB hys hrows => ?_)
    · cases hf : find gs n with
      | none => exact absurd (hp.mem_iff.mp hn) (find_none.mp hf)
      | some x => exact ⟨x.1, x.2, rfl⟩
    · have := el_listD (σ := sS p e R none) (te := tVar 1) (ev_var rfl) (e1 _ _ hT.d)
      rw [show (keysN gs).map V.int = (kvsOf gs).map fun kv => kV kv.1 by unfold keysN kvsOf; rw [List.map_map, List.map_map]; rfl]
      exact this
    · exact eu_cat (xs := [.int n]) (ys := r.v) (eu_tup (ea_cons (ev_var rfl) ea_nil) (by simp)) (eu_tupR (ev_dget (ev_var rfl) (ev_var rfl) (eB _ _ hT.d) (by rw [valV_kvs, hf]; rfl)) (sq_of (eB _ _ (hT.t _ (find_mem hf))))) (by simp) (by unfold Rw.v; simp) (by unfold Rw.v; simp)
    · refine q_mS (ev_var rfl) (eB _ _ ho) rfl ea_nil fun B1 f1 => ⟨p, d, fs, ns, rfl, hh.ex (eB.trans f1), h64, by rw [ab_keys hab]; exact hp, hs, fun L zs B2 hL f2 hL2 hzl hz => ?_⟩
      have hze : zs.length = ns.length := by rw [hzl, hfg, hnl]
      have hrw : RowsAt gs ns ys B2 := fun i y hy => by
        obtain ⟨u, t, r, a1, a2, a3⟩ := hrows i y hy
        exact ⟨u, t, r, a1, a2, f2 _ _ (f1 _ _ a3)⟩
      have e2 : Ex H B2 := (eB.trans f1).trans f2
      have dA : Dp K B2 (.ref L) (.list (ns.map fun n => rowD n (rowOf gs n))) := by
        rw [show (ns.map fun n => rowD n (rowOf gs n)) = ns.map fun n => rowD n (rowOf fs n) from List.map_congr_left fun n _ => by rw [rowOf_ab hab]]
        exact .lst (sq_of hL2) (dp_rows hze hz)
      have dB : Dp K B2 (.ref R) (.list (ns.map fun n => rowD n (rowOf gs n))) := .lst (sq_of (f2 _ _ (f1 _ _ hRB))) (dp_rows hys hrw)
      have hSh : Sh 2 (.list (ns.map fun n => rowD n (rowOf gs n))) := sh_lst fun x hx => by
        obtain ⟨n, hn, rfl⟩ := List.mem_map.mp hx
        refine sh_row ?_
        cases hf : find fs n with
        | none => exact absurd (by rw [ab_keys hab]; exact hp.mem_iff.mp hn) (find_none.mp hf)
        | some x =>
          have h1 : rowOf gs n = x.2 := by
            rw [← rowOf_ab hab]
            unfold rowOf
            rw [hf]
            rfl
          rw [h1]
          exact hTt.ok _ (find_mem hf)
      refine q_when (b := false) (et_is (et_or (et_not (et_B (ev_isi (b := true) (ev_var rfl) ev_c (fun B c => .base (.lst (c _ _ hL2))) (kit_ty rfl)))) (fun _ => et_test (ev_op (ev_var rfl) (ev_var rfl) (rv_neD dA dB hSh (by decide))))) rfl) (fun h => by cases h) (fun _ B3 f3 => ?_)
      have e3 : Ex H B3 := e2.trans f3
      refine q_forNTn (xs := [.str "a", .str "b", .str "main"]) (eu_tup (ea_cons ev_c (ea_cons ev_c (ea_cons ev_c ea_nil))) (Nat.le_of_ble_eq_true rfl)) (fun Pt i σ' B => ∃ y3 y5 y6 y7 y8, σ' = [some (.ref p), some (.ref e), some (.ref R), y3, some (.ref L), y5, y6, y7, y8] ∧ Ex H B ∧ B Pt = some (.tup [.str "a", .str "b", .str "main"])) (fun Pt B hP b hb => ⟨_, _, _, _, _, rfl, e3.trans b, hb⟩) (fun Pt i σ' B _ h => ?_) (fun Pt i x σ' B hx h => ?_) (fun Pt σ' B h => ?_)
      · obtain ⟨y3, y5, y6, y7, y8, rfl, eb, hb⟩ := h
        exact st_of hb
      · obtain ⟨y3, y5, y6, y7, y8, rfl, eb, hb⟩ := h
        obtain ⟨vol, hok, rfl⟩ : ∃ vol : Str, PyData.strOk vol = true ∧ x = .str vol := by
          have hm := List.mem_of_getElem? hx
          rcases List.mem_cons.mp hm with rfl | hm
          · exact ⟨"a", by decide +kernel, rfl⟩
          rcases List.mem_cons.mp hm with rfl | hm
          · exact ⟨"b", by decide +kernel, rfl⟩
          rcases List.mem_cons.mp hm with rfl | hm
          · exact ⟨"main", by decide +kernel, rfl⟩
          · cases hm
        refine q_lcK (eb _ _ hT.d) (fun od => ev_var rfl) (fun i => match gs[i]? with | some g => decide (g.2.2.vol = vol) | none => false) (fun i => match gs[i]? with | some g => .int g.1 | none => .non) (by rw [kvs_len]; have := hT.l; omega) (fun _ => rfl) (fun od i k x B4 b4 hk => ?_) (fun od i k x B4 b4 hk _ => ?_) (fun U B4 hU b4 hU4 => ?_)
        · unfold kvsOf at hk
          rw [List.getElem?_map] at hk
          obtain ⟨g, hg, eg⟩ := Option.map_eq_some_iff.mp hk
          obtain ⟨rfl, rfl⟩ := Prod.mk.inj eg
          have hgd := hT.t g (List.mem_of_getElem? hg)
          have htd : g.2.1 ≠ e := fun c => by rw [c, hT.d] at hgd; cases hgd
          have hgl : B4 g.2.1 = some (.lst g.2.2.v) := b4 _ _ (by rw [upd_ne htd]; exact eb _ _ hgd)
          refine et_is (et_test (ev_op (ev_op (ev_dgetR (v := .ref g.2.1) (ev_var rfl) (ev_var rfl) ⟨od, b4 _ _ upd_same⟩ (by rw [valV_kvs, find_at hT.nd hg]; rfl)) ev_c (rv_ixL (sq_of hgl) (atI_nat (j := 0) rfl))) (ev_var rfl) (rv_eq rfl))) ?_
          show decide (V.str g.2.2.vol = V.str vol) = match gs[i]? with | some g => decide (g.2.2.vol = vol) | none => false
          rw [hg]
          simp
        · unfold kvsOf at hk
          rw [List.getElem?_map] at hk
          obtain ⟨g, hg, eg⟩ := Option.map_eq_some_iff.mp hk
          obtain ⟨rfl, rfl⟩ := Prod.mk.inj eg
          show Ev _ _ _ (match gs[i]? with | some g => V.int g.1 | none => V.non)
          rw [hg]
          exact ev_var rfl
        · have e4 : Ex H B4 := eb.trans b4
          have hu := used_nil (gs := gs) (vol := vol) (f := fun i => match gs[i]? with | some g => decide (g.2.2.vol = vol) | none => false) (v := fun i => match gs[i]? with | some g => .int g.1 | none => .non) (fun i g hg => by simp [hg])
          obtain ⟨ds, hds, hsd, hde⟩ := dp_used (K := K) gs (fun i => match gs[i]? with | some g => decide (g.2.2.vol = vol) | none => false)
          have he : ds.isEmpty = !isU fs vol := by
            rw [ab_isU hab]
            exact hde.trans hu
          have hv : PyData.eqv (.list ds) (.list []) = !isU fs vol := by
            rw [← he]
            cases ds <;> simp [PyData.eqv, PyData.eqvAll]
          have dU : ∀ B, Ex B4 B → Dp K B (.ref U) (.list ds) := fun B c => .lst (sq_of (c _ _ hU4)) (by have := hds B; rw [kvs_len]; exact this)
          have mU : ∀ {B : Hp}, Ex B4 B → SpV (spUsv C Pu) [.ref p, .str vol] B (.bl (isU fs vol)) := fun c B eB Q q E => ⟨p, d, fs, vol, rfl, hh.ex ((e4.trans c).trans eB), Tab.mono ((e4.trans c).trans eB) hPu, q⟩
          refine q_when (b := false) (et_is (et_and (et_test (ev_op (ev_meth (z := .bl (isU fs vol)) (ev_var rfl) (e4 _ _ ho) rfl (ea_cons (ev_var rfl) ea_nil) (mU (Ex.refl _))) ev_c rv_isnb)) (fun _ => et_test (ev_opL (ev_var rfl) (el_lst ea_nil (by simp)) (fun q1 H1 hq1 c1 => rv_eqDD (n := 1) (dU _ c1) (.lst (sq_of hq1) .nil) hsd (sh_lst (fun x hx => by cases hx)) (by decide))))) ?_) (fun h => by cases h) (fun _ B5 b5 => ?_)
          · rw [hv]
            cases isU fs vol <;> rfl
          refine q_when (b := false) (et_is (et_and (et_test (ev_op (ev_meth (z := .bl (isU fs vol)) (ev_var rfl) (b5 _ _ (e4 _ _ ho)) rfl (ea_cons (ev_var rfl) ea_nil) (mU b5)) ev_c rv_isnb)) (fun _ => et_test (ev_opL (ev_var rfl) (el_lst ea_nil (by simp)) (fun q1 H1 hq1 c1 => rv_neDD (n := 1) (dU _ (b5.trans c1)) (.lst (sq_of hq1) .nil) hsd (sh_lst (fun x hx => by cases hx)) (by decide))))) ?_) (fun h => by cases h) (fun _ B6 b6 => ?_)
          · rw [hv]
            cases isU fs vol <;> rfl
          have e6 : Ex H B6 := (e4.trans b5).trans b6
          have hPt6 : B6 Pt = some (.tup [.str "a", .str "b", .str "main"]) := b6 _ _ (b5 _ _ (b4 _ _ hb))
          refine s_forR2 (lo := 2) (n := 5) (ea_cons ev_c (ea_cons ev_c ea_nil)) ⟨by decide, by decide, by decide, by decide⟩ (fun j σ' B => ∃ y3 y7 y8, σ' = [some (.ref p), some (.ref e), some (.ref R), y3, some (.ref L), some (.str vol), some (.ref U), y7, y8] ∧ Ex H B ∧ B Pt = some (.tup [.str "a", .str "b", .str "main"])) (fun B b => ⟨_, _, _, rfl, e6.trans b, b _ _ hPt6⟩) (fun j σ' B hj h => ?_) (fun σ' B h => ?_)
          · obtain ⟨y3, y7, y8, rfl, c0, cP⟩ := h
            refine q_asg (v := .bl (isO fs vol (2 + (j : Int)))) (ev_meth (ev_var rfl) (c0 _ _ ho) rfl (ea_cons (ev_var rfl) (ea_cons (ev_var rfl) ea_nil)) (fun B' eB Q q E => ⟨p, d, fs, vol, 2 + (j : Int), rfl, hok, hh.ex (c0.trans eB), Tab.mono (c0.trans eB) hPi, q⟩)) fun B7 b7 => ?_
            refine s_when (b := false) (et_is (et_or (et_not (et_B (ev_isi (b := true) (ev_var rfl) ev_c (fun _ _ => .base (.bl _)) (kit_ty rfl)))) (fun _ => et_test (ev_op (ev_var rfl) (ev_call (z := .bl (isO gs vol (2 + (j : Int)))) (vs := [.ref e, .str vol, .int (2 + (j : Int))]) (ea_cons (ev_var rfl) (ea_cons (ev_var rfl) (ea_cons (ev_var rfl) ea_nil))) (fun B' eB Q q E => ⟨e, gs, vol, _, rfl, hT.ex ((c0.trans b7).trans eB), q⟩)) (rv_ne rfl)))) ?_) (fun h => by cases h) (fun _ B8 b8 => ⟨_, _, _, rfl, (c0.trans b7).trans b8, b8 _ _ (b7 _ _ cP)⟩)
            rw [ab_isO hab]
            simp
          · obtain ⟨y3, y7, y8, rfl, c0, cP⟩ := h
            exact ⟨_, _, _, _, _, rfl, c0, cP⟩
      · obtain ⟨y3, y5, y6, y7, y8, rfl, eb, hb⟩ := h
        exact s_ret ev_c fun B4 b4 => q B4 (eb.trans b4)
end

end K53

set_option Elab.async false
set_option linter.all false
set_option maxRecDepth 100000
set_option maxHeartbeats 4000000
namespace K53
open PySem PySem.Spec PyProof.Rows L2 Evl LK LT LG LS LQ LX LO LN LP LH LV LD StX
/-! ### both sides of a deed -/
theorem ab_set2 {fs gs : Fl} (h : ab fs = ab gs) (n : Int) (t t' : Addr) (r : Rw) : ab (setRow fs n t r) = ab (setRow gs n t' r) := by rw [ab_set, ab_set, h]
theorem ab_drop2 {fs gs : Fl} (h : ab fs = ab gs) (n : Int) : ab (dropRow fs n) = ab (dropRow gs n) := by rw [ab_drop, ab_drop, h]
theorem dp_pl {K : PySem.W.Frag} {H : Hp} {v : V} {o : Out} (h : IsPl H v o) : Dp K H v (ouD o) := by
  cases o with
  | non => obtain ⟨q, rfl, b⟩ := h; exact .lst (sq_of b) (.cons .non .nil)
  | bad => obtain ⟨q, rfl, b⟩ := h; exact .lst (sq_of b) (.cons (.str _) .nil)
  | inv => obtain ⟨q, rfl, b⟩ := h; exact .lst (sq_of b) (.cons (.str _) .nil)
  | pair x i => obtain ⟨q, u, rfl, b, c⟩ := h; exact .lst (sq_of b) (.cons (.tup (st_of c) (.cons (.str _) (.cons (.int _) .nil))) .nil)
  | quad r => obtain ⟨q, u, rfl, b, c⟩ := h; exact .lst (sq_of b) (.cons (.tup (st_of c) (.cons (.str _) (.cons (.int _) (.cons (.str _) (.cons (.int _) .nil))))) .nil)
def Out.Ok : Out → Prop
  | .pair v _ => PyData.strOk v = true
  | .quad r => r.Ok
  | _ => True
theorem sh_ou {o : Out} (h : o.Ok) : Sh 2 (ouD o) := by
  cases o with
  | non => exact sh_lst fun x hx => by rcases List.mem_cons.mp hx with rfl | hx; exact sh_none _; cases hx
  | bad => exact sh_lst fun x hx => by rcases List.mem_cons.mp hx with rfl | hx; exact (sh_str (by decide +kernel)).up (by decide); cases hx
  | inv => exact sh_lst fun x hx => by rcases List.mem_cons.mp hx with rfl | hx; exact (sh_str (by decide +kernel)).up (by decide); cases hx
  | pair v i =>
    refine sh_lst fun x hx => ?_
    rcases List.mem_cons.mp hx with rfl | hx
    · refine sh_tup fun y hy => ?_
      rcases List.mem_cons.mp hy with rfl | hy
      · exact sh_str h
      rcases List.mem_cons.mp hy with rfl | hy
      · exact sh_int _
      · cases hy
    · cases hx
  | quad r =>
    refine sh_lst fun x hx => ?_
    rcases List.mem_cons.mp hx with rfl | hx
    · refine sh_tup fun y hy => ?_
      rcases List.mem_cons.mp hy with rfl | hy
      · exact sh_str h.1
      rcases List.mem_cons.mp hy with rfl | hy
      · exact sh_int _
      rcases List.mem_cons.mp hy with rfl | hy
      · exact sh_str h.2
      rcases List.mem_cons.mp hy with rfl | hy
      · exact sh_int _
      · cases hy
    · cases hx

end K53

set_option Elab.async false
set_option linter.all false
set_option maxRecDepth 100000
set_option maxHeartbeats 4000000
namespace K53
open PySem PySem.Spec PyProof.Rows L2 Evl LK LT LG LS LQ LX LO LN LP LH LV LD StX
/-! ### a deed, as data -/
theorem IsLeast.uniq {gs : Fl} {n m : Nat} (a : IsLeast gs n) (b : IsLeast gs m) : n = m := by
  by_cases h1 : n < m
  · have := b.2 n h1
    rw [a.1] at this
    cases this
  by_cases h2 : m < n
  · have := a.2 m h2
    rw [b.1] at this
    cases this
  omega
theorem ab_least {fs gs : Fl} (h : ab fs = ab gs) {n : Nat} (a : IsLeast fs n) : IsLeast gs n := by
  refine ⟨ab_none h.symm a.1, fun m hm => ?_⟩
  cases hf : find fs (m : Int) with
  | none =>
    have := a.2 m hm
    rw [hf] at this
    cases this
  | some x =>
    obtain ⟨t', ht⟩ := ab_find h.symm (t := x.1) (r := x.2) hf
    rw [ht]
    rfl
theorem ab_app (fs : Fl) (n : Int) (t : Addr) (r : Rw) : ab (fs ++ [(n, t, r)]) = ab fs ++ [(n, r)] := by
  unfold ab
  rw [List.map_append]
  rfl
theorem ab_len (fs : Fl) : (ab fs).length = fs.length := List.length_map ..
theorem Tl.add {H H1 : Hp} {d t : Addr} {gs : Fl} {n : Int} {r : Rw} (h : Tl H d gs) (e : Ex H H1) (hf : find gs n = none) (hn : H t = none) (ht : H1 t = some (.lst r.v)) (hl : gs.length < 1000) : Tl (upd H1 d (.dK (putK (kvsOf gs) (.inl n) (.ref t)))) d (gs ++ [(n, t, r)]) := by
  have hd := e _ _ h.d
  have ne : ∀ {x : Addr} {xs : List V}, H1 x = some (.lst xs) → x ≠ d := fun hx z => by rw [z, hd] at hx; cases hx
  refine ⟨?_, fun f hf => ?_, ?_, ?_, by rw [List.length_append, List.length_singleton]; omega⟩
  · rw [upd_same, put_keys (by rw [valV_kvs, hf]; rfl)]
    unfold kvsOf
    rw [List.map_append]
    rfl
  · rcases List.mem_append.mp hf with hm | hm
    · rw [upd_ne (ne (e _ _ (h.t f hm)))]
      exact e _ _ (h.t f hm)
    · rw [List.mem_singleton.mp hm, upd_ne (ne ht)]
      exact ht
  · rw [List.map_append, List.nodup_append]
    refine ⟨h.nd, by simp, fun a ha b hb => ?_⟩
    obtain rfl : b = n := by simpa using hb
    exact fun c => find_none.mp hf (by rw [← c]; exact ha)
  · rw [List.map_append, List.nodup_append]
    refine ⟨h.na, by simp, fun a ha b hb => ?_⟩
    obtain rfl : b = t := by simpa using hb
    obtain ⟨g, hg, rfl⟩ := List.mem_map.mp ha
    intro c
    have := h.t g hg
    rw [c, hn] at this
    cases this
abbrev Ab := List (Int × Rw)
def abSet (l : Ab) (n : Int) (r : Rw) : Ab := l.map fun x => if x.1 = n then (n, r) else x
def abDrop (l : Ab) (n : Int) : Ab := l.filter fun x => decide (x.1 ≠ n)
def abIsO (l : Ab) (v : Str) (i : Int) : Bool := l.any fun x => decide (x.2.vol = v) && decide (x.2.ino = i)
def res (l : Ab) (n deed z : Int) : Out × Ab :=
  match (l.find? fun x => decide (x.1 = n)).map (·.2) with
  | none => (.bad, l)
  | some r =>
    if deed = 1 then (.non, abSet l n { r with refs := r.refs + 1 })
    else if deed = 2 then
      if r.refs > 1 then (.non, abSet l n { r with refs := r.refs - 1 })
      else if abIsO (abDrop l n) r.vol r.ino = true then (.non, abDrop l n) else (.pair r.vol r.ino, abDrop l n)
    else if deed = 3 then (if z < 0 ∨ z > 2048 then (.inv, l) else (.non, abSet l n { r with pos := z }))
    else (.quad r, l)
theorem isO_ab (fs : Fl) (v : Str) (i : Int) : isO fs v i = abIsO (ab fs) v i := by
  unfold isO ab abIsO
  rw [List.any_map]
  rfl
theorem find_res {fs : Fl} {n : Int} {t : Addr} {r : Rw} (h : find fs n = some (t, r)) : ((ab fs).find? fun x => decide (x.1 = n)).map (·.2) = some r := by
  rw [← find_ab, h]
  rfl
theorem find_res0 {fs : Fl} {n : Int} (h : find fs n = none) : ((ab fs).find? fun x => decide (x.1 = n)).map (·.2) = none := by
  rw [← find_ab, h]
  rfl
theorem plq_of {C : Addr} {H : Hp} {Q : VK} {p d : Addr} {fs : Fl} {deed n z : Int} (hh : Hd C H p d fs) (k : ∀ v H1 fs', Bx d H H1 → Hd C H1 p d fs' → ab fs' = (res (ab fs) n deed z).2 → IsPl H1 v (res (ab fs) n deed z).1 → Q v H1) : PlQ C H Q p d fs deed n z := by
  refine ⟨fun hf v H1 e1 h1 => ?_, fun hd t r hf v t' H1 b1 h1 hp => ?_, fun hd t r hf hr v t' H1 b1 h1 hp => ?_, fun hd t r hf hr hi v H1 b1 h1 hp => ?_, fun hd t r hf hr hi v H1 b1 h1 hp => ?_, fun hd t r hf hz v H1 e1 hp => ?_, fun hd t r hf z0 z1 v t' H1 b1 h1 hp => ?_, fun d1 d2 d3 t r hf v H1 e1 hp => ?_⟩
  · have e : res (ab fs) n deed z = (.bad, ab fs) := by unfold res; rw [find_res0 hf]
    exact k v H1 fs (Bx.of e1) (hh.ex e1) (by rw [e]) (by rw [e]; exact h1)
  · have e : res (ab fs) n deed z = (.non, abSet (ab fs) n { r with refs := r.refs + 1 }) := by unfold res; rw [find_res hf]; simp [hd]
    exact k v H1 _ b1 h1 (by rw [e, ab_set]; rfl) (by rw [e]; exact hp)
  · have e : res (ab fs) n deed z = (.non, abSet (ab fs) n { r with refs := r.refs - 1 }) := by unfold res; rw [find_res hf]; simp [hd, hr]
    exact k v H1 _ b1 h1 (by rw [e, ab_set]; rfl) (by rw [e]; exact hp)
  · have e : res (ab fs) n deed z = (.non, abDrop (ab fs) n) := by
      rw [isO_ab, ab_drop] at hi
      unfold res; rw [find_res hf]
      show (if deed = 1 then _ else _) = _
      rw [if_neg (by omega), if_pos hd, if_neg hr, if_pos (show abIsO (abDrop (ab fs) n) r.vol r.ino = true from hi)]
    exact k v H1 _ b1 h1 (by rw [e, ab_drop]; rfl) (by rw [e]; exact hp)
  · have e : res (ab fs) n deed z = (.pair r.vol r.ino, abDrop (ab fs) n) := by
      rw [isO_ab, ab_drop] at hi
      unfold res; rw [find_res hf]
      show (if deed = 1 then _ else _) = _
      rw [if_neg (by omega), if_pos hd, if_neg hr, if_neg (by rw [show abIsO (abDrop (ab fs) n) r.vol r.ino = false from hi]; decide)]
    exact k v H1 _ b1 h1 (by rw [e, ab_drop]; rfl) (by rw [e]; exact hp)
  · have e : res (ab fs) n deed z = (.inv, ab fs) := by
      unfold res; rw [find_res hf]
      show (if deed = 1 then _ else _) = _
      rw [if_neg (by omega), if_neg (by omega), if_pos hd, if_pos hz]
    exact k v H1 fs (Bx.of e1) (hh.ex e1) (by rw [e]) (by rw [e]; exact hp)
  · have e : res (ab fs) n deed z = (.non, abSet (ab fs) n { r with pos := z }) := by
      unfold res; rw [find_res hf]
      show (if deed = 1 then _ else _) = _
      rw [if_neg (by omega), if_neg (by omega), if_pos hd, if_neg (by omega)]
    exact k v H1 _ b1 h1 (by rw [e, ab_set]; rfl) (by rw [e]; exact hp)
  · have e : res (ab fs) n deed z = (.quad r, ab fs) := by
      unfold res; rw [find_res hf]
      show (if deed = 1 then _ else _) = _
      rw [if_neg d1, if_neg d2, if_neg d3]
    exact k v H1 fs (Bx.of e1) (hh.ex e1) (by rw [e]) (by rw [e]; exact hp)
def Sub (gs' gs : Fl) : Prop := ∀ g ∈ gs', ∃ g0 ∈ gs, g.2.1 = g0.2.1
theorem sub_set {gs : Fl} {n : Int} {t : Addr} {r r' : Rw} (hf : find gs n = some (t, r)) : Sub (setRow gs n t r') gs := fun g hg => by
  unfold setRow at hg
  obtain ⟨x, hx, rfl⟩ := List.mem_map.mp hg
  by_cases c : x.1 = n
  · rw [if_pos c]
    exact ⟨_, find_mem hf, rfl⟩
  · rw [if_neg c]
    exact ⟨x, hx, rfl⟩
theorem sub_drop {gs : Fl} {n : Int} : Sub (dropRow gs n) gs := fun g hg => ⟨g, (List.mem_filter.mp hg).1, rfl⟩
theorem sub_refl {gs : Fl} : Sub gs gs := fun g hg => ⟨g, hg, rfl⟩
/-- what the law's own deed may change -/
def Ch (gs : Fl) (d : Addr) (a : Addr) : Prop := a = d ∨ ∃ g ∈ gs, a = g.2.1
theorem fr_le {S S' : Addr → Prop} {H H1 : Hp} (f : Fr S H H1) (h : ∀ a, S a → S' a) : Fr S' H H1 := fun a o ha hS => f a o ha fun c => hS (h a c)
theorem duq_of {H : Hp} {Q : VK} {d : Addr} {gs : Fl} {deed n z : Int} (hT : Tl H d gs) (h1 : ∀ x ∈ ab gs, 1 ≤ x.2.refs) (k : ∀ v H1 gs', Fr (Ch gs d) H H1 → Tl H1 d gs' → Sub gs' gs → ab gs' = (res (ab gs) n deed z).2 → IsPl H1 v (res (ab gs) n deed z).1 → Q v H1) : DuQ H Q d gs deed n z := by
  have ch : ∀ {t : Addr} {r : Rw} {H1 : Hp}, find gs n = some (t, r) → Fr (fun a => a = t ∨ a = d) H H1 → Fr (Ch gs d) H H1 := fun hf f => fr_le f fun a ha => ha.elim (fun e => .inr ⟨_, find_mem hf, e⟩) .inl
  have rp : ∀ {t : Addr} {r : Rw}, find gs n = some (t, r) → 1 ≤ r.refs := fun hf => h1 _ (List.mem_map.mpr ⟨_, find_mem hf, rfl⟩)
  refine ⟨fun hf v H1 e1 h1 => ?_, fun hd t r hf v H1 b1 h1 hp => ?_, fun hd t r hf hr v H1 b1 h1 hp => ?_, fun hd t r hf hr hi v H1 b1 h1 hp => ?_, fun hd t r hf hr hi v H1 b1 h1 hp => ?_, fun hd t r hf hz v H1 e1 hp => ?_, fun hd t r hf z0 z1 v H1 b1 h1 hp => ?_, fun d1 d2 d3 t r hf v H1 e1 hp => ?_⟩
  · have e : res (ab gs) n deed z = (.bad, ab gs) := by unfold res; rw [find_res0 hf]
    exact k v H1 gs (Fr.of e1) (hT.ex e1) sub_refl (by rw [e]) (by rw [e]; exact h1)
  · have e : res (ab gs) n deed z = (.non, abSet (ab gs) n { r with refs := r.refs + 1 }) := by unfold res; rw [find_res hf]; simp [hd]
    exact k v H1 _ (ch hf b1) h1 (sub_set hf) (by rw [e, ab_set]; rfl) (by rw [e]; exact hp)
  · have hr2 : r.refs > 1 := by have := rp hf; omega
    have e : res (ab gs) n deed z = (.non, abSet (ab gs) n { r with refs := r.refs - 1 }) := by unfold res; rw [find_res hf]; simp [hd, hr2]
    exact k v H1 _ (ch hf b1) h1 (sub_set hf) (by rw [e, ab_set]; rfl) (by rw [e]; exact hp)
  · have e : res (ab gs) n deed z = (.non, abDrop (ab gs) n) := by
      rw [isO_ab, ab_drop] at hi
      unfold res; rw [find_res hf]
      show (if deed = 1 then _ else _) = _
      rw [if_neg (by omega), if_pos hd, if_neg (by omega), if_pos (show abIsO (abDrop (ab gs) n) r.vol r.ino = true from hi)]
    exact k v H1 _ (ch hf b1) h1 sub_drop (by rw [e, ab_drop]; rfl) (by rw [e]; exact hp)
  · have e : res (ab gs) n deed z = (.pair r.vol r.ino, abDrop (ab gs) n) := by
      rw [isO_ab, ab_drop] at hi
      unfold res; rw [find_res hf]
      show (if deed = 1 then _ else _) = _
      rw [if_neg (by omega), if_pos hd, if_neg (by omega), if_neg (by rw [show abIsO (abDrop (ab gs) n) r.vol r.ino = false from hi]; decide)]
    exact k v H1 _ (ch hf b1) h1 sub_drop (by rw [e, ab_drop]; rfl) (by rw [e]; exact hp)
  · have e : res (ab gs) n deed z = (.inv, ab gs) := by
      unfold res; rw [find_res hf]
      show (if deed = 1 then _ else _) = _
      rw [if_neg (by omega), if_neg (by omega), if_pos hd, if_pos hz]
    exact k v H1 gs (Fr.of e1) (hT.ex e1) sub_refl (by rw [e]) (by rw [e]; exact hp)
  · have e : res (ab gs) n deed z = (.non, abSet (ab gs) n { r with pos := z }) := by
      unfold res; rw [find_res hf]
      show (if deed = 1 then _ else _) = _
      rw [if_neg (by omega), if_neg (by omega), if_pos hd, if_neg (by omega)]
    exact k v H1 _ (ch hf b1) h1 (sub_set hf) (by rw [e, ab_set]; rfl) (by rw [e]; exact hp)
  · have e : res (ab gs) n deed z = (.quad r, ab gs) := by
      unfold res; rw [find_res hf]
      show (if deed = 1 then _ else _) = _
      rw [if_neg d1, if_neg d2, if_neg d3]
    exact k v H1 gs (Fr.of e1) (hT.ex e1) sub_refl (by rw [e]) (by rw [e]; exact hp)
theorem abSet_len (l : Ab) (n : Int) (r : Rw) : (abSet l n r).length = l.length := List.length_map ..
/-- what a deed keeps -/
theorem res_ok {l : Ab} {n deed z : Int} (h1 : ∀ x ∈ l, 1 ≤ x.2.refs) (h2 : ∀ x ∈ l, x.2.Ok) : (∀ x ∈ (res l n deed z).2, 1 ≤ x.2.refs) ∧ (res l n deed z).2.length ≤ l.length ∧ (res l n deed z).1.Ok := by
  unfold res
  cases hf : (l.find? fun x => decide (x.1 = n)).map (·.2) with
  | none => exact ⟨h1, Nat.le_refl _, trivial⟩
  | some r =>
    obtain ⟨x, hx, rfl⟩ := Option.map_eq_some_iff.mp hf
    have hm := List.mem_of_find?_eq_some hx
    have hr := h1 x hm
    have ho := h2 x hm
    have st : ∀ r' : Rw, 1 ≤ r'.refs → ∀ y ∈ abSet l n r', 1 ≤ y.2.refs := fun r' hr' y hy => by
      obtain ⟨u, hu, rfl⟩ := List.mem_map.mp hy
      by_cases c : u.1 = n
      · rw [if_pos c]
        exact hr'
      · rw [if_neg c]
        exact h1 u hu
    have dr : ∀ y ∈ abDrop l n, 1 ≤ y.2.refs := fun y hy => h1 y (List.mem_filter.mp hy).1
    have dl : (abDrop l n).length ≤ l.length := List.length_filter_le _ _
    dsimp only
    by_cases d1 : deed = 1
    · rw [if_pos d1]
      exact ⟨st _ (by show 1 ≤ x.2.refs + 1; omega), Nat.le_of_eq (abSet_len ..), trivial⟩
    rw [if_neg d1]
    by_cases d2 : deed = 2
    · rw [if_pos d2]
      by_cases hr2 : x.2.refs > 1
      · rw [if_pos hr2]
        exact ⟨st _ (by show 1 ≤ x.2.refs - 1; omega), Nat.le_of_eq (abSet_len ..), trivial⟩
      rw [if_neg hr2]
      by_cases hi : abIsO (abDrop l n) x.2.vol x.2.ino = true
      · rw [if_pos hi]
        exact ⟨dr, dl, trivial⟩
      · rw [if_neg hi]
        exact ⟨dr, dl, ho.1⟩
    rw [if_neg d2]
    by_cases d3 : deed = 3
    · rw [if_pos d3]
      by_cases hz : z < 0 ∨ z > 2048
      · rw [if_pos hz]
        exact ⟨h1, Nat.le_refl _, trivial⟩
      · rw [if_neg hz]
        exact ⟨st _ hr, Nat.le_of_eq (abSet_len ..), trivial⟩
    rw [if_neg d3]
    exact ⟨h1, Nat.le_refl _, ho⟩
theorem Hd.fr {C : Addr} {H H1 : Hp} {p d e : Addr} {fs gs : Fl} (h : Hd C H p d fs) (f : Fr (Ch gs e) H H1) (hT : Tl H e gs) (hde : d ≠ e) : Hd C H1 p d fs := by
  obtain ⟨dx, ho, hTt, hdp⟩ := h
  have nt : ∀ {a : Addr} {o : HO}, H a = some o → (∀ r : Rw, o ≠ .lst r.v) → a ≠ e → H1 a = some o := fun ha hk hne => f _ _ ha fun c => by
    rcases c with c | ⟨g, hg, c⟩
    · exact hne c
    · have := hT.t g hg
      rw [← c, ha] at this
      exact hk _ (Option.some.inj this)
  refine ⟨dx, nt ho (fun _ c => by cases c) (fun c => by rw [c, hT.d] at ho; cases ho), ⟨nt hTt.d (fun _ c => by cases c) hde, fun x hx => nt (hTt.t x hx) (fun _ c => by cases c) (fun c => by
    have := hTt.t x hx
    rw [c, hT.d] at this
    cases this), hTt.nd, hTt.l, hTt.ok⟩, hdp⟩
theorem Tl.bx {H H1 : Hp} {e d : Addr} {gs : Fl} {kvs : List (Key × V)} (h : Tl H e gs) (b : Bx d H H1) (hd : H d = some (.dK kvs)) (hde : d ≠ e) : Tl H1 e gs :=
  ⟨b _ _ hde.symm h.d, fun g hg => b _ _ (fun c => by
    have := h.t g hg
    rw [c, hd] at this
    cases this) (h.t g hg), h.nd, h.na, h.l⟩
theorem IsPl.fr {H H1 : Hp} {v : V} {o : Out} {e : Addr} {gs : Fl} (h : IsPl H v o) (f : Fr (Ch gs e) H H1) (hT : Tl H e gs) : IsPl H1 v o := by
  have nt : ∀ {a : Addr} {u : HO}, H a = some u → (∀ r : Rw, u ≠ .lst r.v) → (∀ kvs, u ≠ .dK kvs) → H1 a = some u := fun ha hk hne => f _ _ ha fun c => by
    rcases c with c | ⟨g, hg, c⟩
    · rw [c, hT.d] at ha
      exact hne _ (Option.some.inj ha).symm
    · have := hT.t g hg
      rw [← c, ha] at this
      exact hk _ (Option.some.inj this)
  have l1 : ∀ {x : V} (r : Rw), HO.lst [x] ≠ .lst r.v := fun r c => by
    have := congrArg List.length (HO.lst.inj c)
    simp [Rw.v] at this
  cases o with
  | non => obtain ⟨q, a, b⟩ := h; exact ⟨q, a, nt b l1 (fun _ c => by cases c)⟩
  | bad => obtain ⟨q, a, b⟩ := h; exact ⟨q, a, nt b l1 (fun _ c => by cases c)⟩
  | inv => obtain ⟨q, a, b⟩ := h; exact ⟨q, a, nt b l1 (fun _ c => by cases c)⟩
  | pair x i => obtain ⟨q, u, a, b, c⟩ := h; exact ⟨q, u, a, nt b l1 (fun _ c => by cases c), nt c (fun _ c => by cases c) (fun _ c => by cases c)⟩
  | quad r => obtain ⟨q, u, a, b, c⟩ := h; exact ⟨q, u, a, nt b l1 (fun _ c => by cases c), nt c (fun _ c => by cases c) (fun _ c => by cases c)⟩

end K53

set_option Elab.async false
set_option linter.all false
set_option maxRecDepth 100000
set_option maxHeartbeats 4000000
namespace K53
open PySem PySem.Spec PyProof.Rows L2 Evl LK LT LG LS LQ LX LO LN LP LH LV LD StX
/-! ### the law -/
section
variable {K : PySem.W.Frag} {σ : L2.St} {H : Hp} {ta te td tk : TE} {t : TA} {tu tw tz : TS} {D : Ends} {sp : Sp} {vs : List V} {x : V} {r : R2} {E : XK} {d : Addr} {kvs : List (Key × V)} {z : Int}
theorem q_dnew {i : Nat} (k : ∀ e H1, H e = none → Ex H H1 → H1 e = some (.dK []) → tz D (σ.set i (some (.ref e))) H1) : tSeq (tAsg tDNewK (gName i)) tz D σ H := fun e he => k e _ he (Ex.new he) upd_same
theorem s_ifRun (ha : Ev ta σ H x) (ht : EvA t σ H vs) (k : ∀ H2, Ex H H2 → sp vs H2 (fun y H3 => r x y H3 fun z H4 => ∃ b, z = .bl b ∧ if b = true then tu D σ H4 else tw D σ H4) E) : tIfS (tTest (tOp r ta (tCall sp [] E t))) tu tw D σ H :=
  ha H (Ex.refl _) _ fun H1 e1 => ht H1 e1 _ fun H2 e2 => by
    rw [List.append_nil]
    exact k H2 (e1.trans e2)
theorem q_dputL' {xs : List V} (hv : EvL te σ H xs) (hd : Ev td σ H (.ref d)) (hk : Ev tk σ H (.int z)) (h : H d = some (.dK kvs)) (hl : kvs.length < 100000) (k : ∀ p H1, H p = none → Ex H H1 → H1 p = some (.lst xs) → tz D σ (upd H1 d (.dK (putK kvs (.inl z) (.ref p))))) : tSeq (sDPut td tk te) tz D σ H := s_dputL' (D := { D with nx := tz D }) hv hd hk h hl k
end
theorem pick (l : List Str) (hl : ∀ s ∈ l, PyData.strOk s = true) (z : Int) (h0 : 0 ≤ z) (h : z < l.length) : ∃ s, PyData.strOk s = true ∧ atI (l.map V.str) z = some (.str s) := by
  obtain ⟨k, rfl⟩ : ∃ k : Nat, z = k := ⟨z.toNat, by omega⟩
  have hk : k < l.length := by omega
  exact ⟨l[k], hl _ (List.getElem_mem hk), atI_nat (by rw [List.getElem?_map, List.getElem?_eq_getElem hk]; rfl)⟩
def spLaw (K : PySem.W.Frag) (Pi Pu : Addr) : Sp := fun vs H Q _ => ∃ (a : Addr) (ns : List Int), vs = [.ref a] ∧ SqL K H a (ns.map V.int) ∧ ns.length ≤ 63 ∧ Tab H Pi ∧ Tab H Pu ∧ ∀ H', Ex H H' → Q (.bl true) H'
structure Inv (C : Addr) (H : Hp) (p d e P : Addr) (xs : List V) (B : Hp) (fs gs : Fl) (m : Int) : Prop where
  ex : Ex H B
  pt : B P = some (.lst xs)
  hd : Hd C B p d fs
  tl : Tl B e gs
  ab : ab fs = ab gs
  n : gs.length ≤ 32
  r : ∀ x ∈ K53.ab gs, 1 ≤ x.2.refs
  m : 0 ≤ m
  fr : ∀ g ∈ gs, H g.2.1 = none ∧ g.2.1 ≠ P
theorem Inv.e {C : Addr} {H : Hp} {p d e P : Addr} {xs : List V} {B B' : Hp} {fs gs : Fl} {m : Int} (I : Inv C H p d e P xs B fs gs m) (x : Ex B B') : Inv C H p d e P xs B' fs gs m := ⟨I.ex.trans x, x _ _ I.pt, I.hd.ex x, I.tl.ex x, I.ab, I.n, I.r, I.m, I.fr⟩
theorem Inv.l {C : Addr} {H : Hp} {p d e P : Addr} {xs : List V} {B : Hp} {fs gs : Fl} {m : Int} (I : Inv C H p d e P xs B fs gs m) : fs.length = gs.length := by rw [← ab_len, I.ab, ab_len]
section
variable {P : Program} {w : World} {K : PySem.W.Frag} {mg : Str → Option Value} {base : Heap} {C CN CH CL Pi Pu : Addr}
theorem ok_law {f fI f1 f2 f3 f4 f5 : Addr} {fd fdI fd1 fd2 fd3 fd4 fd5 : FuncData} (F : Fun K "law" "law" sLaw f fd)
    (Ginit : FnOk P w K mg base CX0 1 fI fdI ["self"] (spInit C)) (MS : Mk K C fI) (binit : Binds K fdI ["self"] [])
    (Gadd_open_file : FnOk P w K mg base CX0 1 f1 fd1 ["self", "volume", "inode", "mode"] (spAof C)) (badd_open_file : Binds K fd1 ["self", "volume", "inode", "mode"] []) (madd_open_file : Meth K C "add_open_file" f1)
    (FSh : Fun K "_law_shows" "_law_shows" sShw f2 fd2) (GSh : FnOk P w K mg base CX0 4 f2 fd2 ["handles", "files"] (spShw C Pi Pu)) (bSh : Binds K fd2 ["handles", "files"] []) (gSh : mg "_law_shows" = some (.ref f2))
    (FLe : Fun K "_law_least" "_law_least" sLst f3 fd3) (GLe : FnOk P w K mg base CX0 1 f3 fd3 ["files"] spLst) (bLe : Binds K fd3 ["files"] []) (gLe : mg "_law_least" = some (.ref f3))
    (FPl : Fun K "_law_play" "_law_play" sPlay f4 fd4) (GPl : FnOk P w K mg base CX0 5 f4 fd4 ["handles", "deed", "number", "position"] (spPlay C Pi)) (bPl : Binds K fd4 ["handles", "deed", "number", "position"] []) (gPl : mg "_law_play" = some (.ref f4))
    (FDu : Fun K "_law_due" "_law_due" sDue f5 fd5) (GDu : FnOk P w K mg base CX0 2 f5 fd5 ["files", "deed", "number", "position"] spDue) (bDu : Binds K fd5 ["files", "deed", "number", "position"] []) (gDu : mg "_law_due" = some (.ref f5))
    (T : Txt mg K C) : FnOk P w K mg base CX0 6 f fd ["script"] (spLaw K Pi Pu) := by
  refine F.ok scLaw (fun vs H Q E h => ?_) (fun cdv A outer s H vs Q E hr h => ?_)
  · obtain ⟨a, ns, rfl, _⟩ := h
    rfl
  · obtain ⟨a, ns, rfl, hS, hl, hPi, hPu, q⟩ := h
    refine ⟨_, (pss_cons (ps_set (i := 1) scLaw.nd rfl (Or.inl rfl) (pe_make0 MS Ginit (hr.mono (by decide)) (by rfl) T.mgC binit .nil pass0))
      (pss_cons (ps_set (i := 2) scLaw.nd rfl (Or.inl rfl) pe_dnewK)
      (pss_cons (ps_set (i := 3) scLaw.nd rfl (Or.inl rfl) pe_int)
      (pss_cons (ps_if (pt_not (pt_val (pe_call GSh (hr.mono (by decide)) (by rfl) gSh FSh.kp bSh .nil pass0 (pa_cons (pv 1) (pa_cons (pv 2) pa_nil))))) (pss_one (ps_ret pe_bl)) pss_nil)
      (pss_cons (ps_for PassesOwn.never rfl (pi_list (pe_slice sl_list (pv 0) po_none (po_some pe_int))) (pg_name (i := 4) scLaw.nd rfl (Or.inl rfl)) (pss_cons (ps_set (i := 5) scLaw.nd rfl (Or.inl rfl) (pe_op op_mod (pe_op op_mod (pe_callTy call_int1 (by rfl) T.int (by decide +kernel) (pa_cons (pv 4) pa_nil)) pe_int) pe_int))
      (pss_cons (ps_set (i := 6) scLaw.nd rfl (Or.inl rfl) (pe_op op_fdiv (pe_callTy call_int1 (by rfl) T.int (by decide +kernel) (pa_cons (pv 4) pa_nil)) pe_int))
      (pss_cut (ps_if (PW.pt (pw_and (pt_cmpR op_eq (pv 5) pe_int (nomark _)) (pw_and1 (pt_cmpR op_lt (pe_callB call_lenD (by rfl) T.len (by decide +kernel) (pa_cons (pv 2) pa_nil)) pe_int (nomark _))))) (pss_cons (ps_set (i := 7) scLaw.nd rfl (Or.inl rfl) (pe_ix ix_list (pe_lst (pa_cons pe_str (pa_cons pe_str (pa_cons pe_str pa_nil)))) (pe_op op_mod (pv 6) pe_int) (fun _ _ => rfl)))
      (pss_cons (ps_set (i := 8) scLaw.nd rfl (Or.inl rfl) (pe_op op_add pe_int (pe_op op_mod (pe_op op_fdiv (pv 6) pe_int) pe_int)))
      (pss_cons (ps_set (i := 9) scLaw.nd rfl (Or.inl rfl) (pe_ix ix_list (pe_lst (pa_cons pe_str (pa_cons pe_str (pa_cons pe_str (pa_cons pe_str (pa_cons pe_str pa_nil)))))) (pe_op op_mod (pe_op op_fdiv (pv 6) pe_int) pe_int) (fun _ _ => rfl)))
      (pss_cons (ps_set (i := 10) scLaw.nd rfl (Or.inl rfl) (pe_meth (pv 1) T.cl madd_open_file Gadd_open_file (hr.mono (by decide)) badd_open_file .nil pass0 (pa_cons (pv 7) (pa_cons (pv 8) (pa_cons (pv 9) pa_nil)))))
      (pss_cons (ps_if (PW.pt (pw_or (pt_not (pt_val (pe_callB call_isi (by rfl) T.isinstance (by decide +kernel) (pa_cons (pv 10) (pa_cons (pe_bltn (v := .ty "int") (u := .type "int") (by rfl) T.int (by decide +kernel) rfl) pa_nil))))) (pw_or (pt_val (pe_callB call_isi (by rfl) T.isinstance (by decide +kernel) (pa_cons (pv 10) (pa_cons (pe_bltn (v := .ty "bool") (u := .type "bool") (by rfl) T.bool (by decide +kernel) rfl) pa_nil)))) (pw_or1 (pt_cmpR op_ne (pv 10) (pe_call GLe (hr.mono (by decide)) (by rfl) gLe FLe.kp bLe .nil pass0 (pa_cons (pv 2) pa_nil)) (nomark _)))))) (pss_one (ps_ret pe_bl)) pss_nil)
      (pss_cons (ps_dput (hu_of hr) (pv 2) (pv 10) (pe_lst (pa_cons (pv 7) (pa_cons (pv 8) (pa_cons (pv 9) (pa_cons pe_int (pa_cons pe_int pa_nil)))))) (by rfl))
      (pss_one (ps_set (i := 3) scLaw.nd rfl (Or.inl rfl) (pe_callB (call_max2 rfl) (by rfl) T.max (by decide +kernel) (pa_cons (pv 3) (pa_cons (pv 10) pa_nil))))))))))) (pss_cons (ps_set (i := 10) scLaw.nd rfl (Or.inl rfl) (pe_op op_mod (pv 6) (pe_op op_add (pv 3) pe_int)))
      (pss_cons (ps_set (i := 11) scLaw.nd rfl (Or.inl rfl) (pe_op op_sub (pe_op op_mod (pe_op op_fdiv (pv 6) pe_int) pe_int) pe_int))
      (pss_cons (ps_set (i := 12) scLaw.nd rfl (Or.inl rfl) (pe_call GPl (hr.mono (by decide)) (by rfl) gPl FPl.kp bPl .nil pass0 (pa_cons (pv 1) (pa_cons (pv 5) (pa_cons (pv 10) (pa_cons (pv 11) pa_nil))))))
      (pss_one (ps_if (pt_cmpR (op_neD hr.units) (pv 12) (pe_call GDu (hr.mono (by decide)) (by rfl) gDu FDu.kp bDu .nil pass0 (pa_cons (pv 2) (pa_cons (pv 5) (pa_cons (pv 10) (pa_cons (pv 11) pa_nil))))) (nomark _)) (pss_one (ps_ret pe_bl)) pss_nil))))))
      (pss_one (ps_if (pt_not (pt_val (pe_call GSh (hr.mono (by decide)) (by rfl) gSh FSh.kp bSh .nil pass0 (pa_cons (pv 1) (pa_cons (pv 2) pa_nil))))) (pss_one (ps_ret pe_bl)) pss_nil))))))
      (pss_one (ps_ret pe_bl))))))), ?_⟩
    refine q_make ea_nil fun p dx H1 H2 hp0 hp1 e1 ho e2 => ⟨p, dx, rfl, ho, fun H3 hk d hd hHd => ⟨rfl, ?_⟩⟩
    have e03 : Ex H H3 := fun x o h => hk x o ((e1.trans e2) x o h) (fun c => by rw [c, hp0] at h; cases h)
    have hd0 : H d = none := fresh_back (e1.trans e2) hd
    refine q_dnew fun e H4 he e4 h4 => ?_
    have he0 : H e = none := fresh_back e03 he
    have hde : d ≠ e := fun c => by
      obtain ⟨_, _, t, _⟩ := hHd
      rw [← c, t.d] at he
      cases he
    refine q_asg ev_c fun H5 e5 => ?_
    have hT5 : Tl H5 e [] := ⟨e5 _ _ h4, fun g hg => (by cases hg), List.nodup_nil, List.nodup_nil, Nat.zero_le _⟩
    have hh5 : Hd C H5 p d [] := hHd.ex (e4.trans e5)
    have shw : ∀ {σ : L2.St} {B : Hp} {fs gs : Fl}, σ[1]? = some (some (.ref p)) → σ[2]? = some (some (.ref e)) → Ex H B → Hd C B p d fs → Tl B e gs → ab fs = ab gs → fs.length < 64 → EvT (tNot (tB (tCall (spShw C Pi Pu) [] E0 (tCons (tVar 1) (tCons (tVar 2) tNil))))) σ B false := fun h1 h2 eB hH hT hab hl => et_is (et_not (et_B (ev_call (z := .bl true) (vs := [.ref p, .ref e]) (ea_cons (ev_var h1) (ea_cons (ev_var h2) ea_nil)) (fun B' eB' Q' q' E' => ⟨p, d, e, _, _, rfl, hH.ex eB', hT.ex eB', hab, hl, Tab.mono (eB.trans eB') hPi, Tab.mono (eB.trans eB') hPu, q'⟩)))) rfl
    refine q_when (shw rfl rfl (e03.trans (e4.trans e5)) hh5 hT5 rfl (by decide)) (fun h => by cases h) fun _ H6 e6 => ?_
    have e06 : Ex H H6 := (e03.trans (e4.trans e5)).trans e6
    refine q_forNLn (el_is (el_sl (ev_var rfl) eo_none (eo_some ev_c) (ex_l e06 hS)) (show cutV (ns.map V.int) none (some 60) = (ns.map V.int).take 60 from cut_lo _ 60)) (fun Pt i σ' B => ∃ fs gs m y4 y5 y6 y7 y8 y9 y10 y11 y12, σ' = [some (.ref a), some (.ref p), some (.ref e), some (.int m), y4, y5, y6, y7, y8, y9, y10, y11, y12] ∧ Inv C H p d e Pt ((ns.map V.int).take 60) B fs gs m) (fun Pt B hP b hb => ⟨[], [], 0, _, _, _, _, _, _, _, _, _, rfl, ⟨e06.trans b, hb, hh5.ex (e6.trans b), hT5.ex (e6.trans b), rfl, by decide, (fun x hx => by cases hx), by decide, (fun x hx => by cases hx)⟩⟩) (fun Pt i σ' B _ h => ?_) (fun Pt i x σ' B hx h => ?_) (fun Pt σ' B h => ?_)
    · obtain ⟨fs, gs, m, y4, y5, y6, y7, y8, y9, y10, y11, y12, rfl, I⟩ := h
      exact sq_of I.pt
    · obtain ⟨fs, gs, m, y4, y5, y6, y7, y8, y9, y10, y11, y12, rfl, I⟩ := h
      obtain ⟨c, rfl⟩ : ∃ c : Int, x = .int c := by
        obtain ⟨c, _, rfl⟩ := List.mem_map.mp (List.mem_of_mem_take (List.mem_of_getElem? hx))
        exact ⟨c, rfl⟩
      refine q_asg (v := .int (c % 6 % 5)) (ev_op (ev_op (ev_int1 (ev_var rfl)) ev_c (rv_I (by show (0 : Int) < 6; decide))) ev_c (rv_I (by show (0 : Int) < 5; decide))) fun B1 b1 => ?_
      refine q_asg (v := .int (c / 6)) (ev_op (ev_int1 (ev_var rfl)) ev_c (rv_I ⟨by decide, by decide⟩)) fun B2 b2 => ?_
      generalize c % 6 % 5 = deed
      generalize c / 6 = rest
      have I2 := (I.e b1).e b2
      refine q_cut (M := fun σ' B => ∃ fs gs m y4 y5 y6 y7 y8 y9 y10 y11 y12, σ' = [some (.ref a), some (.ref p), some (.ref e), some (.int m), y4, y5, y6, y7, y8, y9, y10, y11, y12] ∧ Inv C H p d e Pt ((ns.map V.int).take 60) B fs gs m) ?_ ?_
      · have ln : ∀ {B3 : Hp} {σ : L2.St}, Ex B2 B3 → σ[2]? = some (some (.ref e)) → Ev (tCB (fun xs H Q => ∃ a kvs, xs = [V.ref a] ∧ H a = some (.dK kvs) ∧ Q (.int kvs.length) H) (tCons (tVar 2) tNil)) σ B3 (.int (gs.length : Int)) := fun x h => ev_cb (ea_cons (ev_var h) ea_nil) (fun H1 y Q q => ⟨e, _, rfl, y _ _ (x _ _ I2.tl.d), by rw [kvs_len]; exact q H1 (Ex.refl _)⟩)
        refine s_if (et_and (et_test (ev_op (ev_var rfl) ev_c (rv_eq rfl))) (fun _ => et_test (ev_op (ln (Ex.refl _) rfl) ev_c rv_I0))) (fun hb B3 b3 => ?_) (fun hb B3 b3 => ?_)
        · have hlt : gs.length < 32 := by
            have h2 := (Bool.and_eq_true _ _ ▸ hb).2
            have := of_decide_eq_true h2
            omega
          have I3 := I2.e b3
          obtain ⟨vol, vok, vat⟩ := pick ["a", "b", "main"] (by decide +kernel) (rest % 3) (by omega) (by show rest % 3 < 3; omega)
          obtain ⟨mode, mok, mat⟩ := pick ["r", "w", "rw", "wa", "rwa"] (by decide +kernel) (rest / 9 % 5) (by omega) (by show rest / 9 % 5 < 5; omega)
          refine q_asg (v := .str vol) (ev_opL1 (xs := (["a", "b", "main"] : List Str).map V.str) (el_lst (ea_cons ev_c (ea_cons ev_c (ea_cons ev_c ea_nil))) (by simp)) (fun _ _ => ev_op (ev_var rfl) ev_c (rv_I (by show (0 : Int) < 3; decide))) (fun _ _ hp _ => rv_ixL (sq_of hp) vat)) fun B4 b4 => ?_
          refine q_asg (v := .int (2 + rest / 3 % 3)) (ev_op ev_c (ev_op (ev_op (ev_var rfl) ev_c (rv_I ⟨by decide, by decide⟩)) ev_c (rv_I (by show (0 : Int) < 3; decide))) rv_I0) fun B5 b5 => ?_
          refine q_asg (v := .str mode) (ev_opL1 (xs := (["r", "w", "rw", "wa", "rwa"] : List Str).map V.str) (el_lst (ea_cons ev_c (ea_cons ev_c (ea_cons ev_c (ea_cons ev_c (ea_cons ev_c ea_nil))))) (by simp)) (fun _ _ => ev_op (ev_op (ev_var rfl) ev_c (rv_I ⟨by decide, by decide⟩)) ev_c (rv_I (by show (0 : Int) < 5; decide))) (fun _ _ hp _ => rv_ixL (sq_of hp) mat)) fun B6 b6 => ?_
          generalize 2 + rest / 3 % 3 = ino
          have I6 := ((I3.e b4).e b5).e b6
          obtain ⟨dx6, ho6, hT6, hdp6⟩ := id I6.hd
          refine q_mA (ev_var rfl) ho6 rfl (ea_cons (ev_var rfl) (ea_cons (ev_var rfl) (ea_cons (ev_var rfl) ea_nil))) fun B7 b7 => ⟨p, d, fs, vol, ino, mode, rfl, vok, mok, I6.hd.ex b7, by rw [I6.l]; omega, fun n t B8 hL ht bx hd8 => ?_⟩
          have I7 := I6.e b7
          obtain ⟨dx7, ho7, hT7, hdp7⟩ := id I7.hd
          have tl8 : Tl B8 e gs := I7.tl.bx bx hT7.d hde
          have ex8 : Ex H B8 := Bx.ex I7.ex bx hd0
          have P8 : B8 Pt = some (.lst ((ns.map V.int).take 60)) := bx _ _ (fun c => by
            have := I7.pt
            rw [c, hT7.d] at this
            cases this) I7.pt
          have hLg := ab_least I7.ab hL
          refine q_when (b := false) (et_is (et_or (et_not (et_B (ev_isi (b := true) (ev_var rfl) ev_c (fun _ _ => .base (.int _)) (kit_ty rfl)))) (fun _ => et_or (et_B (ev_isi (b := false) (ev_var rfl) ev_c (fun _ _ => .base (.int _)) (kit_ty rfl))) (fun _ => et_test (ev_op (ev_var rfl) (ev_call (z := .int (n : Int)) (vs := [.ref e]) (ea_cons (ev_var rfl) ea_nil) (fun B' eB Q' q' E' => ⟨e, gs, rfl, tl8.ex eB, fun k hk => by rw [hk.uniq hLg]; exact q'⟩)) (rv_ne rfl))))) (by simp)) (fun h => by cases h) (fun _ B9 b9 => ?_)
          refine q_dputL' (xs := (⟨vol, ino, mode, 0, 1⟩ : Rw).v) (el_lst (ea_cons (ev_var rfl) (ea_cons (ev_var rfl) (ea_cons (ev_var rfl) (ea_cons ev_c (ea_cons ev_c ea_nil))))) (Nat.le_of_ble_eq_true rfl)) (ev_var rfl) (ev_var rfl) (b9 _ _ tl8.d) (by rw [kvs_len]; omega) fun u BA hu bA hA => ?_
          have tlA := tl8.add (n := (n : Int)) (t := u) (r := ⟨vol, ino, mode, 0, 1⟩) (b9.trans bA) hLg.1 (fresh_back b9 hu) hA (by omega)
          have u0 : H u = none := fresh_back (ex8.trans b9) hu
          have frA : Bx e B8 (upd BA e (.dK (putK (kvsOf gs) (.inl (n : Int)) (.ref u)))) := (Bx.of (b9.trans bA)).up
          obtain ⟨dx8, ho8, hT8, hdp8⟩ := id hd8
          have hdA : Hd C (upd BA e (.dK (putK (kvsOf gs) (.inl (n : Int)) (.ref u)))) p d _ := ⟨dx8, frA _ _ (fun c => by rw [c, tl8.d] at ho8; cases ho8) ho8, ⟨frA _ _ hde hT8.d, fun x hx => frA _ _ (fun c => by
            have := hT8.t x hx
            rw [c, tl8.d] at this
            cases this) (hT8.t x hx), hT8.nd, hT8.l, hT8.ok⟩, hdp8⟩
          have IA : Inv C H p d e Pt ((ns.map V.int).take 60) (upd BA e (.dK (putK (kvsOf gs) (.inl (n : Int)) (.ref u)))) (fs ++ [((n : Int), t, ⟨vol, ino, mode, 0, 1⟩)]) (gs ++ [((n : Int), u, ⟨vol, ino, mode, 0, 1⟩)]) m := ⟨Bx.ex ex8 frA he0, frA _ _ (fun c => by rw [c, tl8.d] at P8; cases P8) P8, hdA, tlA, by rw [ab_app, ab_app, I7.ab], by rw [List.length_append, List.length_singleton]; omega, fun x hx => by
            rw [ab_app] at hx
            rcases List.mem_append.mp hx with hx | hx
            · exact I7.r x hx
            · rw [List.mem_singleton.mp hx]
              show (1 : Int) ≤ 1
              decide, I7.m, fun g hg => by
            rcases List.mem_append.mp hg with hg | hg
            · exact I7.fr g hg
            · rw [List.mem_singleton.mp hg]
              refine ⟨u0, fun c => ?_⟩
              have hc : u = Pt := c
              have := b9 _ _ P8
              rw [← hc, hu] at this
              cases this⟩
          refine s_asg (v := .int (if (n : Int) > m then (n : Int) else m)) (ev_cb (ea_cons (ev_var rfl) (ea_cons (ev_var rfl) ea_nil)) (fun H1 y Q q => ⟨_, _, rfl, q _ (Ex.refl _)⟩)) fun BB bB => ?_
          have IB := IA.e bB
          exact ⟨_, _, (if (n : Int) > m then (n : Int) else m), _, _, _, _, _, _, _, _, _, rfl, { IB with m := by have := I7.m; split <;> omega }⟩
        · have I3 := I2.e b3
          have m0 := I3.m
          refine q_asg (v := .int (rest % (m + 2))) (ev_op (ev_var rfl) (ev_op (ev_var rfl) ev_c rv_I0) (rv_I (by show (0 : Int) < m + 2; omega))) fun B4 b4 => ?_
          refine q_asg (v := .int (rest / 61 % 2052 - 1)) (ev_op (ev_op (ev_op (ev_var rfl) ev_c (rv_I ⟨by decide, by decide⟩)) ev_c (rv_I (by show (0 : Int) < 2052; decide))) ev_c rv_I0) fun B5 b5 => ?_
          generalize rest % (m + 2) = n
          generalize rest / 61 % 2052 - 1 = z
          have I5 := (I3.e b4).e b5
          refine q_run (ea_cons (ev_var rfl) (ea_cons (ev_var rfl) (ea_cons (ev_var rfl) (ea_cons (ev_var rfl) ea_nil)))) fun B6 b6 => ⟨p, d, fs, deed, n, z, rfl, I5.hd.ex b6, Tab.mono (I5.ex.trans b6) hPi, plq_of (I5.hd.ex b6) fun v B7 fs' bx hd7 hab7 hpl => ?_⟩
          have I6 := I5.e b6
          obtain ⟨dx6, ho6, hT6, hdp6⟩ := id I6.hd
          have tl7 : Tl B7 e gs := I6.tl.bx bx hT6.d hde
          have ex7 : Ex H B7 := Bx.ex I6.ex bx hd0
          have P7 : B7 Pt = some (.lst ((ns.map V.int).take 60)) := bx _ _ (fun c => by
            have := I6.pt
            rw [c, hT6.d] at this
            cases this) I6.pt
          have ok6 : ∀ x ∈ ab gs, x.2.Ok := fun x hx => by
            rw [← I6.ab] at hx
            obtain ⟨y, hy, rfl⟩ := List.mem_map.mp hx
            exact hT6.ok y hy
          have hres := res_ok (n := n) (deed := deed) (z := z) I6.r ok6
          rw [I6.ab] at hab7 hpl
          refine s_ifRun (vs := [.ref e, .int deed, .int n, .int z]) (ev_var rfl) (ea_cons (ev_var rfl) (ea_cons (ev_var rfl) (ea_cons (ev_var rfl) (ea_cons (ev_var rfl) ea_nil)))) fun B8 b8 => ⟨e, gs, deed, n, z, rfl, tl7.ex b8, duq_of (tl7.ex b8) I6.r fun v2 B9 gs' fr9 tl9 sub9 hab9 hpl9 => ?_⟩
          have tl8 := tl7.ex b8
          refine rv_neD (dp_pl ((hpl.ex b8).fr fr9 tl8)) (dp_pl hpl9) (sh_ou hres.2.2) (by decide) B9 (Ex.refl _) _ fun BA bA => ⟨false, rfl, ?_⟩
          have hd9 := (hd7.ex b8).fr fr9 tl8 hde
          refine ⟨fs', gs', m, _, _, _, _, _, _, _, _, _, rfl, ?_⟩
          have nS : ∀ x, Ch gs e x → H x = none := fun x hx => by
            rcases hx with rfl | ⟨g, hg, rfl⟩
            · exact he0
            · exact (I6.fr g hg).1
          have hl9 : gs'.length ≤ 32 := by
            have h1 := hres.2.1
            rw [← hab9, ab_len, ab_len] at h1
            have := I6.n
            omega
          exact Inv.e ⟨Fr.ex (ex7.trans b8) fr9 nS, fr9 _ _ (b8 _ _ P7) (fun c => by
            rcases c with rfl | ⟨g, hg, c⟩
            · have := tl7.d
              rw [P7] at this
              cases this
            · exact (I6.fr g hg).2 c.symm), hd9, tl9, hab7.trans hab9.symm, hl9, by rw [hab9]; exact hres.1, m0, fun g hg => by
            obtain ⟨g0, h0, e0⟩ := sub9 g hg
            rw [e0]
            exact I6.fr g0 h0⟩ bA
      · rintro σ' B3 ⟨fs, gs, m, y4, y5, y6, y7, y8, y9, y10, y11, y12, rfl, I3⟩
        refine s_when (shw rfl rfl I3.ex I3.hd I3.tl I3.ab (by have := I3.l; have := I3.n; omega)) (fun h => by cases h) fun _ B4 b4 => ⟨fs, gs, m, y4, y5, y6, y7, y8, y9, y10, y11, y12, rfl, I3.e b4⟩
    · obtain ⟨fs, gs, m, y4, y5, y6, y7, y8, y9, y10, y11, y12, rfl, I⟩ := h
      exact s_ret ev_c fun B4 b4 => q B4 (I.ex.trans b4)
end

end K53

set_option Elab.async false
set_option linter.all false
set_option maxRecDepth 100000
set_option maxHeartbeats 4000000
namespace K53
open PySem PySem.Spec PyProof.Rows L2 Evl LK LT LG LS LQ LX LO LN LP LH LV LD StX
def d1 : He.DefD := ⟨("is_word", none), "is_word", "is_word", defArgs sIw, defBody sIw, defScope sIw, [], []⟩
def d2 : He.DefD := ⟨("Handles", some "__init__"), "__init__", "Handles.__init__", defArgs sInit, defBody sInit, defScope sInit, [], []⟩
def d3 : He.DefD := ⟨("Handles", some "open_files"), "open_files", "Handles.open_files", defArgs sOpf, defBody sOpf, defScope sOpf, [], []⟩
def d4 : He.DefD := ⟨("Handles", some "add_open_file"), "add_open_file", "Handles.add_open_file", defArgs sAof, defBody sAof, defScope sAof, [], []⟩
def d5 : He.DefD := ⟨("Handles", some "look_up"), "look_up", "Handles.look_up", defArgs sLup, defBody sLup, defScope sLup, [], []⟩
def d6 : He.DefD := ⟨("Handles", some "move_to"), "move_to", "Handles.move_to", defArgs sMov, defBody sMov, defScope sMov, [], []⟩
def d7 : He.DefD := ⟨("Handles", some "add_reference"), "add_reference", "Handles.add_reference", defArgs sAdr, defBody sAdr, defScope sAdr, [], []⟩
def d8 : He.DefD := ⟨("Handles", some "drop_reference"), "drop_reference", "Handles.drop_reference", defArgs sDrr, defBody sDrr, defScope sDrr, [], []⟩
def d9 : He.DefD := ⟨("Handles", some "is_open"), "is_open", "Handles.is_open", defArgs sIso, defBody sIso, defScope sIso, [], []⟩
def d10 : He.DefD := ⟨("Handles", some "uses_volume"), "uses_volume", "Handles.uses_volume", defArgs sUsv, defBody sUsv, defScope sUsv, [], []⟩
def d11 : He.DefD := ⟨("Handles", some "_found"), "_found", "Handles._found", defArgs sFnd, defBody sFnd, defScope sFnd, [], []⟩
def d12 : He.DefD := ⟨("_law_classes", none), "_law_classes", "_law_classes", defArgs sCls_, defBody sCls_, defScope sCls_, [], []⟩
def d13 : He.DefD := ⟨("_law_play", none), "_law_play", "_law_play", defArgs sPlay, defBody sPlay, defScope sPlay, [], []⟩
def d14 : He.DefD := ⟨("_law_open", none), "_law_open", "_law_open", defArgs sLop, defBody sLop, defScope sLop, [], []⟩
def d15 : He.DefD := ⟨("_law_due", none), "_law_due", "_law_due", defArgs sDue, defBody sDue, defScope sDue, [], []⟩
def d16 : He.DefD := ⟨("_law_least", none), "_law_least", "_law_least", defArgs sLst, defBody sLst, defScope sLst, [], []⟩
def d17 : He.DefD := ⟨("_law_shows", none), "_law_shows", "_law_shows", defArgs sShw, defBody sShw, defScope sShw, [], []⟩
def d18 : He.DefD := ⟨("law", none), "law", "law", defArgs sLaw, defBody sLaw, defScope sLaw, [], []⟩
def fnL : List He.DefD := [d1, d2, d3, d4, d5, d6, d7, d8, d9, d10, d11, d12, d13, d14, d15, d16, d17, d18]
def faL : List He.Fa := ([.glo "is_word", .meth "Handles" "open_files", .meth "Handles" "add_open_file", .meth "Handles" "look_up", .meth "Handles" "move_to", .meth "Handles" "add_reference", .meth "Handles" "drop_reference", .meth "Handles" "is_open", .meth "Handles" "uses_volume", .meth "Handles" "_found", .glo "_law_classes", .glo "_law_play", .glo "_law_open", .glo "_law_due", .glo "_law_least", .glo "_law_shows", .glo "law", .free "len", .free "range", .free "tuple", .free "list", .free "isinstance", .free "int", .free "bool", .free "any", .free "max", .free "sorted", .int "MAX_CELLS" 2048, .glo "Handles", .cls "Handles"] : List He.Fa) ++ ([.keep "Handles", .noat "Handles" "_files", .mkr "Handles", .glo "BadHandle", .exc "BadHandle", .glo "NotValid", .exc "NotValid", .glo "LaminaError", .exc "LaminaError"] : List He.Fa)
def tfL : List He.Defn := [("Handles", some "is_open"), ("Handles", some "uses_volume")]
def exL (K : PySem.W.Frag) : Bool := (HE.dictC K "BadHandle" && (HE.dictC K "NotValid" && (HE.dictC K "LaminaError" && (HE.subC K "BadHandle" "BadHandle" true && (HE.subC K "BadHandle" "NotValid" false && (HE.subC K "NotValid" "BadHandle" false && (HE.subC K "NotValid" "NotValid" true && (HE.subC K "NotValid" "LaminaError" true && (HE.subC K "BadHandle" "LaminaError" true && (HE.excC K "BadHandle" && (HE.excC K "NotValid" && true)))))))))))
abbrev R : PySem.W.OpenRow := PySem.W.OpenLaw.row PySem.Challenge.rw_laminae_k53_open_files
abbrev hk : PySem.W.Hook := He.hookX 5 faL fnL [] tfL exL
def ob (s : PySem.W.SharedT) : He.AlX := He.obsX 5 faL fnL [] tfL exL (HandSHeadRun.getT s)
theorem ob_eq (s : PySem.W.SharedT) : ob s = hk.obs s.abs := He.obsX_eq (HandSHeadRun.getT_eq s)
def looseL : List PySem.Str := (["_wall", "LaminaError", "NotValid", "BadHandle", "is_word", "MAX_CELLS", "Handles", "_law_classes", "_law_play", "_law_open", "_law_due", "_law_least", "_law_shows"] : List PySem.Str)
set_option maxHeartbeats 0 in
theorem run (w : World) : HandSHeadRun.RunEq R (PySem.W.view R.prog [17]) hk ob 4000 looseL w := by
  intro os
  kernel_rfl
theorem facts {l : PySem.W.OpenLaw} {w : World} {K : PySem.W.Frag} {h : Heap} {mg : Str → Option Value} {fa : Addr} (X : K.In h) (G : h.Ns mainGlobals mg) (hfa : mg ("law" : Str) = some (.ref fa)) (c : He.SaysX faL fnL [] tfL exL w h K) :
    ∃ (fd : FuncData) (cs : List (Addr × Addr)) (sp : Sp), (∀ p ∈ cs, h.get? p.2 = some { cls := .none, data := .fields #[] } ∧ K.lookup p.2 = none ∧ PySem.W.CodeHd h p.1 p.2) ∧ (∀ (s : Shared) (u : Value), BindsTo s fd ⟨[u], []⟩ [("script", u)]) ∧
        (∀ (H : Hp) (a : Addr) (ns : List Int), ns.length ≤ 63 → (∀ p ∈ cs, LT.Tab H p.2) → SqL K H a (ns.map V.int) → ∀ Q : VK, (∀ H', Ex H H' → Q (.bl true) H') → sp [.ref a] H Q fun _ _ _ => False) ∧
        ∀ base : Heap, K.In base → base.Ns mainGlobals mg → (∀ p ∈ cs, LamX.TabB base mg p.1 p.2) → FnOk l.prog w K mg base CX0 6 fa fd ["script"] sp := by
  have cd := c.t.d
  obtain ⟨fd1, F1⟩ := cd.def_ 0 (d := d1) rfl
  have F1 := HE.fun_of (st := sIw) F1
  have m1 := He.glo_ok X G (cd.fact 0 (f := .glo "is_word") rfl)
  have b1 := F1.binds (ps := ["value"]) fun _ _ _ _ _ _ us hl => match us, hl with | [_], _ => rfl
  obtain ⟨fd2, F2⟩ := cd.def_ 1 (d := d2) rfl
  have F2 := HE.fun_of (st := sInit) F2
  have b2 := F2.binds (ps := ["self"]) fun _ _ _ _ _ _ us hl => match us, hl with | [_], _ => rfl
  obtain ⟨fd3, F3⟩ := cd.def_ 2 (d := d3) rfl
  have F3 := HE.fun_of (st := sOpf) F3
  have m3 := He.meth_ok (cd.fact 1 (f := .meth "Handles" "open_files") rfl)
  have b3 := F3.binds (ps := ["self"]) fun _ _ _ _ _ _ us hl => match us, hl with | [_], _ => rfl
  obtain ⟨fd4, F4⟩ := cd.def_ 3 (d := d4) rfl
  have F4 := HE.fun_of (st := sAof) F4
  have m4 := He.meth_ok (cd.fact 2 (f := .meth "Handles" "add_open_file") rfl)
  have b4 := F4.binds (ps := ["self", "volume", "inode", "mode"]) fun _ _ _ _ _ _ us hl => match us, hl with | [_, _, _, _], _ => rfl
  obtain ⟨fd5, F5⟩ := cd.def_ 4 (d := d5) rfl
  have F5 := HE.fun_of (st := sLup) F5
  have m5 := He.meth_ok (cd.fact 3 (f := .meth "Handles" "look_up") rfl)
  have b5 := F5.binds (ps := ["self", "number"]) fun _ _ _ _ _ _ us hl => match us, hl with | [_, _], _ => rfl
  obtain ⟨fd6, F6⟩ := cd.def_ 5 (d := d6) rfl
  have F6 := HE.fun_of (st := sMov) F6
  have m6 := He.meth_ok (cd.fact 4 (f := .meth "Handles" "move_to") rfl)
  have b6 := F6.binds (ps := ["self", "number", "position"]) fun _ _ _ _ _ _ us hl => match us, hl with | [_, _, _], _ => rfl
  obtain ⟨fd7, F7⟩ := cd.def_ 6 (d := d7) rfl
  have F7 := HE.fun_of (st := sAdr) F7
  have m7 := He.meth_ok (cd.fact 5 (f := .meth "Handles" "add_reference") rfl)
  have b7 := F7.binds (ps := ["self", "number"]) fun _ _ _ _ _ _ us hl => match us, hl with | [_, _], _ => rfl
  obtain ⟨fd8, F8⟩ := cd.def_ 7 (d := d8) rfl
  have F8 := HE.fun_of (st := sDrr) F8
  have m8 := He.meth_ok (cd.fact 6 (f := .meth "Handles" "drop_reference") rfl)
  have b8 := F8.binds (ps := ["self", "number"]) fun _ _ _ _ _ _ us hl => match us, hl with | [_, _], _ => rfl
  obtain ⟨fd9, F9⟩ := cd.def_ 8 (d := d9) rfl
  have F9 := HE.fun_of (st := sIso) F9
  have F9 := HE.funC_of F9
  have m9 := He.meth_ok (cd.fact 7 (f := .meth "Handles" "is_open") rfl)
  have b9 := F9.fun.binds (ps := ["self", "volume", "inode"]) fun _ _ _ _ _ _ us hl => match us, hl with | [_, _, _], _ => rfl
  obtain ⟨fd10, F10⟩ := cd.def_ 9 (d := d10) rfl
  have F10 := HE.fun_of (st := sUsv) F10
  have F10 := HE.funC_of F10
  have m10 := He.meth_ok (cd.fact 8 (f := .meth "Handles" "uses_volume") rfl)
  have b10 := F10.fun.binds (ps := ["self", "volume"]) fun _ _ _ _ _ _ us hl => match us, hl with | [_, _], _ => rfl
  obtain ⟨fd11, F11⟩ := cd.def_ 10 (d := d11) rfl
  have F11 := HE.fun_of (st := sFnd) F11
  have m11 := He.meth_ok (cd.fact 9 (f := .meth "Handles" "_found") rfl)
  have b11 := F11.binds (ps := ["self", "number"]) fun _ _ _ _ _ _ us hl => match us, hl with | [_, _], _ => rfl
  obtain ⟨fd12, F12⟩ := cd.def_ 11 (d := d12) rfl
  have F12 := HE.fun_of (st := sCls_) F12
  have m12 := He.glo_ok X G (cd.fact 10 (f := .glo "_law_classes") rfl)
  have b12 := F12.binds (ps := ["error"]) fun _ _ _ _ _ _ us hl => match us, hl with | [_], _ => rfl
  obtain ⟨fd13, F13⟩ := cd.def_ 12 (d := d13) rfl
  have F13 := HE.fun_of (st := sPlay) F13
  have m13 := He.glo_ok X G (cd.fact 11 (f := .glo "_law_play") rfl)
  have b13 := F13.binds (ps := ["handles", "deed", "number", "position"]) fun _ _ _ _ _ _ us hl => match us, hl with | [_, _, _, _], _ => rfl
  obtain ⟨fd14, F14⟩ := cd.def_ 13 (d := d14) rfl
  have F14 := HE.fun_of (st := sLop) F14
  have m14 := He.glo_ok X G (cd.fact 12 (f := .glo "_law_open") rfl)
  have b14 := F14.binds (ps := ["files", "volume", "inode"]) fun _ _ _ _ _ _ us hl => match us, hl with | [_, _, _], _ => rfl
  obtain ⟨fd15, F15⟩ := cd.def_ 14 (d := d15) rfl
  have F15 := HE.fun_of (st := sDue) F15
  have m15 := He.glo_ok X G (cd.fact 13 (f := .glo "_law_due") rfl)
  have b15 := F15.binds (ps := ["files", "deed", "number", "position"]) fun _ _ _ _ _ _ us hl => match us, hl with | [_, _, _, _], _ => rfl
  obtain ⟨fd16, F16⟩ := cd.def_ 15 (d := d16) rfl
  have F16 := HE.fun_of (st := sLst) F16
  have m16 := He.glo_ok X G (cd.fact 14 (f := .glo "_law_least") rfl)
  have b16 := F16.binds (ps := ["files"]) fun _ _ _ _ _ _ us hl => match us, hl with | [_], _ => rfl
  obtain ⟨fd17, F17⟩ := cd.def_ 16 (d := d17) rfl
  have F17 := HE.fun_of (st := sShw) F17
  have m17 := He.glo_ok X G (cd.fact 15 (f := .glo "_law_shows") rfl)
  have b17 := F17.binds (ps := ["handles", "files"]) fun _ _ _ _ _ _ us hl => match us, hl with | [_, _], _ => rfl
  obtain ⟨fd18, F18⟩ := cd.def_ 17 (d := d18) rfl
  have F18 := HE.fun_of (st := sLaw) F18
  have m18 := He.glo_ok X G (cd.fact 16 (f := .glo "law") rfl)
  have bl := HE.binds1 (y := "script") F18 fun _ _ _ _ _ _ _ => rfl
  have e := hfa.symm.trans m18
  cases e
  have clC := He.cls_ok (cd.fact 29 (f := .cls "Handles") rfl)
  have n0C := He.noat_ok (cd.fact 31 (f := .noat "Handles" "_files") rfl)
  have mgC := He.glo_ok X G (cd.fact 28 (f := .glo "Handles") rfl)
  have MC := He.mkr_ok (cd.fact 32 (f := .mkr "Handles") rfl)
  have ex := c.more
  unfold exL at ex
  obtain ⟨xdH, ex⟩ := He.ba ex
  obtain ⟨xdN, ex⟩ := He.ba ex
  obtain ⟨xdL, ex⟩ := He.ba ex
  obtain ⟨sHH, ex⟩ := He.ba ex
  obtain ⟨sHN, ex⟩ := He.ba ex
  obtain ⟨sNH, ex⟩ := He.ba ex
  obtain ⟨sNN, ex⟩ := He.ba ex
  obtain ⟨sNL, ex⟩ := He.ba ex
  obtain ⟨sHL, ex⟩ := He.ba ex
  obtain ⟨xfH, ex⟩ := He.ba ex
  obtain ⟨xfN, ex⟩ := He.ba ex
  have XH := HE.xc_of X G (cd.fact 33 (f := .glo "BadHandle") rfl) (cd.fact 34 (f := .exc "BadHandle") rfl) xdH
  have XCH := HE.excC_ok xfH
  have XN := HE.xc_of X G (cd.fact 35 (f := .glo "NotValid") rfl) (cd.fact 36 (f := .exc "NotValid") rfl) xdN
  have XCN := HE.excC_ok xfN
  have XL := HE.xc_of X G (cd.fact 37 (f := .glo "LaminaError") rfl) (cd.fact 38 (f := .exc "LaminaError") rfl) xdL
  have sHH := HE.subC_ok sHH
  have sHN := HE.subC_ok sHN
  have sNH := HE.subC_ok sNH
  have sNN := HE.subC_ok sNN
  have sNL := HE.subC_ok sNL
  have sHL := HE.subC_ok sHL
  have T : Txt mg K (He.ga K "Handles") := ⟨He.free_ok X G (cd.fact 17 (f := .free "len") rfl), He.free_ok X G (cd.fact 18 (f := .free "range") rfl), He.free_ok X G (cd.fact 19 (f := .free "tuple") rfl), He.free_ok X G (cd.fact 20 (f := .free "list") rfl), He.free_ok X G (cd.fact 21 (f := .free "isinstance") rfl), He.free_ok X G (cd.fact 22 (f := .free "int") rfl), He.free_ok X G (cd.fact 23 (f := .free "bool") rfl), He.free_ok X G (cd.fact 24 (f := .free "any") rfl), He.free_ok X G (cd.fact 25 (f := .free "max") rfl), He.free_ok X G (cd.fact 26 (f := .free "sorted") rfl), He.int_ok X G (cd.fact 27 (f := .int "MAX_CELLS" 2048) rfl), clC, n0C, mgC⟩
  refine ⟨fd18, [He.cT K ("Handles", some "is_open"), He.cT K ("Handles", some "uses_volume")], spLaw K (He.cT K ("Handles", some "is_open")).2 (He.cT K ("Handles", some "uses_volume")).2, fun p hp => ?_, bl, fun H a ns hl hT hS Q q => ⟨a, ns, rfl, hS, hl, hT (He.cT K ("Handles", some "is_open")) (by simp), hT (He.cT K ("Handles", some "uses_volume")) (by simp), q⟩, fun base hKb hGb hTB => ?_⟩
  · obtain ⟨t, ht, rfl⟩ : ∃ t ∈ tfL, He.cT K t = p := by
      simp only [List.mem_cons, List.not_mem_nil, or_false] at hp
      rcases hp with hp | hp
      · exact ⟨("Handles", some "is_open"), by simp [tfL], hp.symm⟩
      · exact ⟨("Handles", some "uses_volume"), by simp [tfL], hp.symm⟩
    exact ⟨c.empty t ht, c.out t ht, PySem.W.codeHd_of_K X (c.hd t ht)⟩
  · have B1 : LamX.TabB base mg (He.codeOf K ("Handles", some "is_open")) (He.cT K ("Handles", some "is_open")).2 := hTB (He.cT K ("Handles", some "is_open")) (by simp)
    have B2 : LamX.TabB base mg (He.codeOf K ("Handles", some "uses_volume")) (He.cT K ("Handles", some "uses_volume")).2 := hTB (He.cT K ("Handles", some "uses_volume")) (by simp)
    exact (have GIn := ok_init (P := l.prog) (w := w) (base := base) F2 T; have GFn := ok_fnd (P := l.prog) (w := w) (base := base) F11 T XH; have GUs := ok_usv (P := l.prog) (w := w) (base := base) F10 B2 T; have GIs := ok_iso (P := l.prog) (w := w) (base := base) F9 B1 T; have GLu := ok_lup F5 GFn b11 m11 T; have GAd := ok_adr F7 GFn b11 m11 T; have GMv := ok_mov F6 GFn b11 m11 F1 b1 m1 T XN; have GDr := ok_drr F8 GFn b11 m11 GIs b9 m9 T; have GAo := ok_aof (P := l.prog) (w := w) (base := base) F4 T; have GOp := ok_opf (P := l.prog) (w := w) (base := base) F3 T; have GKi := ok_cls (P := l.prog) (w := w) (base := base) F12 T XH XN XCH XCN sHH sHN sNH sNN; have GLo := ok_lop (P := l.prog) (w := w) (base := base) F14 T; have GLe := ok_lst (P := l.prog) (w := w) (base := base) F16 T; have GPl := ok_play F13 F12 GKi b12 m12 GAd b7 m7 GDr b8 m8 GMv b6 m6 GLu b5 m5 T XL sNL sHL; have GDu := ok_due F15 F14 GLo b14 m14 T; have GSh := ok_shw F17 GOp b3 m3 GUs b10 m10 GIs b9 m9 F14 GLo b14 m14 T; ok_law F18 GIn MC b2 GAo b4 m4 F17 GSh b17 m17 F16 GLe b16 m16 F13 GPl b13 m13 F15 GDu b15 m15 T)
end K53
open PySem PySem.W PySem.Calls PyProof.Rows
set_option maxHeartbeats 0 in
theorem PySem.Challenge.cw_laminae_k53_open_files_holds : PySem.Challenge.rw_laminae_k53_open_files.Holds := by
  w_on; o_law
  refine HandSHeadRun.head_any (r := OpenLaw.row PySem.Challenge.rw_laminae_k53_open_files) (q := view (OpenLaw.row PySem.Challenge.rw_laminae_k53_open_files).prog [17]) (H := K53.hk) (ob := K53.ob) (M := 4000) (loose := K53.looseL) (d := HandSHeadRun.topDef (OpenLaw.row PySem.Challenge.rw_laminae_k53_open_files).prog 17) (kwd := []) K53.ob_eq
    (by kernel_rfl) (fun s => by kernel_rfl) K53.run (by kernel_rfl) (by kernel_rfl) (by kernel_rfl) (by rfl) (by first | assumption | decide +kernel) (by decide +kernel) ⟨rfl, rfl, rfl, rfl, rfl, by decide +kernel⟩ ?hw ?hc
  case hw => w_witness2
  case hc =>
    refine HE.walk_facts (l := PySem.Challenge.rw_laminae_k53_open_files) (n := 63) (k := 6) (x := "script") rfl (by decide) (by kernel_rfl) ⟨rfl, by decide, by decide⟩ ?F
    intro w mg fa h Y G hmg0
    obtain ⟨K, KX, c⟩ := Y
    have hmg : mg ("law" : PySem.Str) = some (.ref fa) := by
      have e : (HandSHeadRun.topDef (OpenLaw.row PySem.Challenge.rw_laminae_k53_open_files).prog 17).name = ("law" : PySem.Str) := by kernel_rfl
      rw [← e]
      exact hmg0
    obtain ⟨fd, cs, sp, h1, h2, h3, h4⟩ := K53.facts (l := PySem.Challenge.rw_laminae_k53_open_files) KX G hmg c
    exact ⟨K, fd, cs, sp, KX, h1, h2, h3, h4⟩

