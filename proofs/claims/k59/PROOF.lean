import PyProof.Rows.All
import Wide.All
import OpenK.AllK
import Wide.FinOn
import HandS.ForMost
import HandS.Evl
import HandS.TupLe
import HandS.IsInst
import HandS.AnyAll
import HandS.EndOwn
import HandS.StrMore
import HandS.Conv
import HandS.Sort
import HandS.Star
import HandS.WordsExc
import HandS.ExcIs
import HandS.Wide
import HandS.ExcOwn
import HandS.TryOnly
import KE.KStateDown
import Lean
import HandS.Defaults
import HandS.Head0
import HandS.Head1
import HandS.Head2
import HandS.Head3
import HandS.HeadEnd
import HandS.HeadHook1
import HandS.HeadHook2
import HandS.HeadHook3
import HandS.HeadHook4
import HandS.HeadWalk
import HandS.Lambda
import HandS.EndTab
import PySem.Challenge.RW_laminae_k59_commit_steps
import HandS.GenList
import HandS.HotCalls
import HandS.Walk
import PyProof.WalksPairs
import KE.GoesZip
import KE.GoesMore
import KE.KTurns
import KE.KUnpackStar
import HandS.More
import KE.SortData
import HandS.SortOrd
import PyProof.ReprRoads
import PyProof.ReprLen
import PyProof.Rows.RegStrFacts
import PyProof.Rows.ReprOcc
set_option Elab.async false
set_option linter.all false
set_option maxRecDepth 100000
set_option maxHeartbeats 4000000
namespace LT
open PySem PySem.Spec PyProof.Rows L2 Evl
/-! ### the table of a code object: whatever it holds -/
def TabPhi (P : Addr) (h : Heap) : Prop := ∃ ps : Array Value, h.get? P = some { cls := .none, data := .fields ps } ∧ TriplesOk ps.toList
def Tab (H : Hp) (P : Addr) : Prop := H P = some (.ext (TabPhi P))
theorem tab_stab (P : Addr) : ∀ h1 h2 : Heap, TabPhi P h1 → (∀ o, h1.get? P = some o → h2.get? P = some o) → TabPhi P h2 := fun _ _ ⟨ps, e, t⟩ k => ⟨ps, k _ e, t⟩
theorem tab_ok {p : Program} {w : World} {H : Hp} {h : Heap} {P : Addr} (t : TabPhi P h) : ObjOk p w H h P (.ext (TabPhi P)) := ⟨t, ⟨_, t.choose_spec.1⟩, tab_stab P⟩
theorem Tab.of_ok {p : Program} {w : World} {H : Hp} {h : Heap} {P : Addr} (t : Tab H P) (ok : HOk p w H h) : TabPhi P h := (ok P _ t).1
theorem Tab.mono {H H' : Hp} {P : Addr} (e : Ex H H') (t : Tab H P) : Tab H' P := e _ _ t
open Classical in
def extH (Ps : List Addr) (H : Hp) : Hp := fun b => if b ∈ Ps then some (.ext (TabPhi b)) else H b
theorem extH_in {Ps : List Addr} {H : Hp} {b : Addr} (h : b ∈ Ps) : extH Ps H b = some (.ext (TabPhi b)) := if_pos h
theorem extH_out {Ps : List Addr} {H : Hp} {b : Addr} (h : b ∉ Ps) : extH Ps H b = H b := if_neg h
/-- a promise over heaps whose tables are opaque, for a caller whose tables are all empty -/
def spExt (Ps : List Addr) (sp : Sp) : Sp := fun vs H Q E => (∀ p ∈ Ps, H p = some (.tbl #[])) ∧ sp vs (extH Ps H) (fun v H' => (∀ p ∈ Ps, Tab H' p) ∧ ∀ H2, Q v H2) E
section
variable {P : Program} {w : World} {K : PySem.W.Frag} {mg : Str → Option Value} {base : Heap}
theorem ok_ext {Ps : List Addr} {k : Nat} {f : Addr} {fd : FuncData} {ps : List Str} {sp : Sp} (F : FnOk P w K mg base CX0 k f fd ps sp) : FnOk P w K mg base CX0 k f fd ps (spExt Ps sp) := by
  refine ⟨fun vs H Q E h => F.len _ _ _ _ h.2, fun A outer s H args us vs Q E hr e0 hb hv ⟨hT, hs⟩ => ?_⟩
  have none_ : ∀ {b : Addr}, H b = none → extH Ps H b = none := fun {b} n => by
    rw [extH_out fun hb => by rw [hT b hb] at n; cases n]
    exact n
  have same : ∀ {b : Addr} {u : HO}, H b = some u → (∀ q, u ≠ .tbl q) → extH Ps H b = some u := fun {b u} e n => by
    rw [extH_out fun hb => by rw [hT b hb] at e; exact n _ (Option.some.inj e).symm]
    exact e
  have ok1 : HOk P w (extH Ps H) s.heap := fun b u e => by
    by_cases hb : b ∈ Ps
    · rw [extH_in hb] at e
      cases e
      exact tab_ok ⟨#[], e0.hok b _ (hT b hb), by simp [TriplesOk]⟩
    · rw [extH_out hb] at e
      exact (e0.hok b u e).stay (fun _ _ _ q => q) (fun c q => same q (fun z y => by cases y)) fun c xs q => same q (fun z y => by cases y)
  have e1 : Env0 P w K mg base A outer s (extH Ps H) := ⟨e0.frames, e0.mod, fun b o e => ⟨(e0.bs b o e).1, none_ (e0.bs b o e).2⟩, e0.bsz, e0.funs, fun b hb => none_ (e0.frf b hb), ok1, e0.bare⟩
  refine codeAny_mono (F.run A outer s (extH Ps H) args us vs _ E hr e1 hb hv hs) fun r s' h => ?_
  cases r with
  | error e => exact h.elim
  | ok fl =>
    cases fl with
    | next => exact h
    | brk => exact h
    | cont => exact h
    | ret u =>
      obtain ⟨v, H', os, bare, un, ok', rv, hTab, q⟩ := h
      have more : ∀ p ∈ Ps, TabPhi p s'.heap := fun p hp => (hTab p hp).of_ok ok'
      let H2 : Hp := fun b => if hb : b ∈ Ps then some (.tbl (more b hb).choose) else H' b
      have hin : ∀ {b : Addr} (hb : b ∈ Ps), H2 b = some (.tbl (more b hb).choose) := fun {b} hb => dif_pos hb
      have hout : ∀ {b : Addr}, b ∉ Ps → H2 b = H' b := fun {b} hb => dif_neg hb
      have keepH : ∀ {b : Addr} {u : HO}, H' b = some u → (∀ φ, u ≠ .ext φ) → H2 b = some u := fun {b u} e n => by
        rw [hout fun hb => by rw [hTab b hb] at e; exact n _ (Option.some.inj e).symm]
        exact e
      refine ⟨v, H2, os, bare, ⟨fun b o e n => un.keep b o e (none_ n), fun b o e n => un.slot b o e (none_ n), fun b o e n hx => ?_, un.there, fun b xs e => ?_, fun b o x e => ?_, fun b q e => ?_⟩, fun b y e => ?_, rv, q H2⟩
      · have n' := none_ n
        rw [hout fun hb => by rw [hT b hb] at n; cases n]
        exact un.free b o e n' hx
      · exact keepH (un.tups b xs (same e (fun z y => by cases y))) (fun z y => by cases y)
      · exact keepH (un.frzs b o x (same e (fun z y => by cases y))) (fun z y => by cases y)
      · by_cases hb : b ∈ Ps
        · rw [hT b hb] at e
          cases e
          exact ⟨(more b hb).choose, by rw [hin hb, Array.empty_append]⟩
        · obtain ⟨m, z⟩ := un.tbls b q (by rw [extH_out hb]; exact e)
          exact ⟨m, by rw [hout hb]; exact z⟩
      · by_cases hb : b ∈ Ps
        · rw [hin hb] at e
          cases e
          exact (more b hb).choose_spec.1
        · rw [hout hb] at e
          exact (ok' b y e).stay (fun _ _ _ q => q) (fun c q => keepH q (fun z y => by cases y)) fun c xs q => keepH q (fun z y => by cases y)
end
/-- the law's walk where top-level defs (names) hold generator expressions: their tables are empty at the start -/
theorem walk_tabs {l : PySem.W.OpenLaw} {n k : Nat} {q : Program} {loose : List Str} {XP : (Str → Option Value) → Heap → Prop} {YP : World → Heap → Prop} {d : DefRec} {K : Params → PySem.W.Frag} {x : Str} (names : List Str)
    (hn : l.most = some n) (hn2 : n ≤ sizeLine) (hdf : d.params.defaults = []) (hr : Room k callerA) (hrec : ∀ y ∈ names, ((recsOf q).find? fun e => e.name == y).isSome = true) (hY : ∀ (w : World) (h : Heap), YP w h → (K w.params).In h)
    (F : ∀ (w : World) (mg : Str → Option Value) (fa : Addr) (h : Heap), (K w.params).In h → h.Ns mainGlobals mg → mg d.name = some (.ref fa) →
      ∃ (fd : FuncData) (cs : List (Str × Addr × Addr)) (sp : Sp), (∀ p ∈ cs, p.1 ∈ names ∧ PySem.W.tabIn (K w.params) p.1 = some p.2 ∧ (K w.params).lookup p.2.2 = none) ∧ (∀ (s : Shared) (u : Value), BindsTo s fd ⟨[u], []⟩ [(x, u)]) ∧
        (∀ (H : Hp) (a : Addr) (ns : List Int), ns.length ≤ n → (∀ p ∈ cs, Tab H p.2.2) → SqL (K w.params) H a (ns.map V.int) → ∀ Q : VK, (∀ H', Ex H H' → Q (.bl true) H') → sp [.ref a] H Q fun _ _ _ => False) ∧
        ∀ base : Heap, (K w.params).In base → base.Ns mainGlobals mg → (∀ p ∈ cs, LamX.TabB base mg p.2.1 p.2.2) → FnOk l.prog w (K w.params) mg base CX0 k fa fd [x] sp) :
    PySem.W.WalkO q loose XP YP l.row.toRowW d [] (fun f vs => PySem.call f vs) := by
  refine Att.attach_callB hn hdf fun w s₀ s₁ mg mb fa o pm cd doc a vs ns G Y ho hd hcd hmg hobj hints hlen hbits hg => ?_
  have KX := hY w _ Y
  obtain ⟨fd, cs, sp, hcs, hb, hsp, hF⟩ := F w mg fa _ KX G.T.g hmg
  have two : ∀ p ∈ cs, PySem.W.CodeHd s₁.heap p.2.1 p.2.2 ∧ s₁.heap.get? p.2.2 = some { cls := .none, data := .fields #[] } := fun p hp => by
    obtain ⟨h1, h2, _⟩ := hcs p hp
    obtain ⟨e, he⟩ := Option.isSome_iff_exists.mp (hrec _ h1)
    exact PySem.W.tab_of G.T KX he h2
  have mem : ∀ y ∈ cs.map (fun p => (p.2.1, p.2.2)), ∃ p ∈ cs, p.2 = y := fun y hy => by
    obtain ⟨p, hp, e⟩ := List.mem_map.mp hy
    exact ⟨p, hp, by rw [← e]⟩
  have lim : ∀ b ∈ cs.map (fun p => p.2.2), ∃ p ∈ cs, p.2.2 = b := fun b hb => by
    obtain ⟨p, hp, e⟩ := List.mem_map.mp hb
    exact ⟨p, hp, e⟩
  refine LamX.law_callTs (cs := cs.map fun p => (p.2.1, p.2.2)) (CX := CX0) (sp := spExt (cs.map fun p => p.2.2) sp) KX G.T.g G.T.b G.T.builtins G.T.nolimit hg (fun y hy => ?_) (fun y hy => ?_) (fun y hy => ?_) G.T.bmain hobj hints (Nat.le_trans hlen hn2) hr
    (fun base h1 h2 h3 => ok_ext (hF base h1 h2 fun p hp => h3 (p.2.1, p.2.2) (List.mem_map.mpr ⟨p, hp, rfl⟩))) hb (fun H hH hS => ?_) fun H e s' z => z
  · obtain ⟨p, hp, rfl⟩ := mem y hy
    exact (two p hp).2
  · obtain ⟨p, hp, rfl⟩ := mem y hy
    exact (hcs p hp).2.2
  · obtain ⟨p, hp, rfl⟩ := mem y hy
    exact (two p hp).1
  · refine ⟨fun b hb => ?_, ?_⟩
    · obtain ⟨p, hp, rfl⟩ := lim b hb
      exact hH (p.2.1, p.2.2) (List.mem_map.mpr ⟨p, hp, rfl⟩)
    · have hnt : ∀ p ∈ cs, extH (cs.map fun p => p.2.2) H p.2.2 = some (.ext (TabPhi p.2.2)) := fun p hp => extH_in (List.mem_map.mpr ⟨p, hp, rfl⟩)
      refine hsp _ a ns hlen hnt ?_ _ fun H' e => ⟨fun b hb => ?_, fun _ => rfl⟩
      · rcases hS with (h | ⟨o, h⟩) | h
        · refine .inl (.inl ?_)
          rw [extH_out fun hb => ?_]
          · exact h
          · obtain ⟨p, hp, rfl⟩ := lim a hb
            rw [hH (p.2.1, p.2.2) (List.mem_map.mpr ⟨p, hp, rfl⟩)] at h
            cases h
        · refine .inl (.inr ⟨o, ?_⟩)
          rw [extH_out fun hb => ?_]
          · exact h
          · obtain ⟨p, hp, rfl⟩ := lim a hb
            rw [hH (p.2.1, p.2.2) (List.mem_map.mpr ⟨p, hp, rfl⟩)] at h
            cases h
        · exact .inr h
      · obtain ⟨p, hp, rfl⟩ := lim b hb
        exact e _ _ (hnt p hp)
end LT

set_option Elab.async false
set_option linter.all false
set_option maxRecDepth 100000
set_option maxHeartbeats 4000000
namespace LG
open PySem PySem.Spec PyProof.Rows L2 Evl LT
/-! ### generator expressions whose elements leave everything as it stands -/
theorem kp_tok (s : Shared) (k : Nat) : Keeps s { s with toks := k } := ⟨s.heap, k, rfl, fun _ _ e => e⟩
theorem kp_refl (s : Shared) : Keeps s s := kp_tok s s.toks
theorem kp_trans {s s1 s2 : Shared} (a : Keeps s s1) (b : Keeps s1 s2) : Keeps s s2 := by
  obtain ⟨h1, t1, rfl, k1⟩ := a
  obtain ⟨h2, t2, rfl, k2⟩ := b
  exact ⟨h2, t2, rfl, fun c o e => k2 c o (k1 c o e)⟩
theorem kp_at {s s1 : Shared} (a : Keeps s s1) : ∀ b o, s.heap.get? b = some o → s1.heap.get? b = some o := by
  obtain ⟨h1, t1, rfl, k1⟩ := a
  exact k1
def but (P : Addr) (H : Hp) : Hp := fun b => if b = P then none else H b
theorem but_ne {P b : Addr} {H : Hp} (h : b ≠ P) : but P H b = H b := if_neg h
/-- in the frame of a generator expression, at one turn: its name x holds u -/
structure Fc (X : Cx) (σ : L2.St) (H : Hp) (P : Addr) (scope : Scope) (x : Str) (u : Value) (cenv : Env) (A' : Around) (s₂ : Shared) (m₂ : Str → Option Value) : Prop where
  hd : A'.handled = none
  dp : A'.depth ≤ X.A.depth + 1
  un : A'.units ≤ X.A.units + 8
  sc : cenv.scope = scope
  gl : cenv.globals = mainGlobals
  bi : cenv.builtins = builtinsNs
  ns : s₂.heap.Ns cenv.locals m₂
  mx : m₂ x = some u
  base : ∀ b o, X.base.get? b = some o → s₂.heap.get? b = some o
  md : L2.Mod X.K X.mg X.base
  hok : HOk X.prog X.w (but P H) s₂.heap
  cap : ∀ (i : Nat) (y : Str) (v : V), X.N[i]? = some y → σ[i]? = some (some v) → (X.env.kindOf y = some .cell ∨ X.env.kindOf y = some .free) → scope.names.lookup y = some .free → ∃ r c, RelV v r ∧ cenv.cells.lookup y = some c ∧ s₂.heap.IsCell c (some r)
section
variable {X : Cx} {σ : L2.St} {H : Hp} {P : Addr} {scope : Scope} {x : Str} {u : Value} {cenv : Env} {A' : Around} {s₂ s₃ : Shared} {m₂ : Str → Option Value}
theorem Fc.keeps (F : Fc X σ H P scope x u cenv A' s₂ m₂) (k : Keeps s₂ s₃) : Fc X σ H P scope x u cenv A' s₃ m₂ :=
  have k' := kp_at k
  ⟨F.hd, F.dp, F.un, F.sc, F.gl, F.bi, (let ⟨o, es, ep, e, r⟩ := F.ns; ⟨o, es, ep, k' _ _ e, r⟩), F.mx, fun b o e => k' b o (F.base b o e), F.md, F.hok.kept k', fun i y v h1 h2 h3 h4 => by
    obtain ⟨r, c, a1, a2, o, a3, a4⟩ := F.cap i y v h1 h2 h3 h4
    exact ⟨r, c, a1, a2, o, k' _ _ a3, a4⟩⟩
theorem Fc.kin (F : Fc X σ H P scope x u cenv A' s₂ m₂) : X.K.In s₂.heap := F.md.kin.keeps F.base
theorem Fc.list (F : Fc X σ H P scope x u cenv A' s₂ m₂) (hT : Tab H P) {a : Addr} {xs : List V} (h : SqL X.K H a xs) : ∃ its : List Value, Vals xs its ∧ PlainL s₂.heap a its.toArray ∧ xs.length ≤ sizeLine := by
  have rd : ∀ {o : HO}, H a = some o → (∀ φ, o ≠ .ext φ) → but P H a = some o := fun {o} e n => by
    rw [but_ne fun z => by rw [z, hT] at e; exact n _ (Option.some.inj e).symm]
    exact e
  rcases h with (h | ⟨o, h⟩) | ⟨o, its, n, hk, hc, hd, hs, hz, r⟩
  · obtain ⟨z, its, n, r, e⟩ := F.hok a _ (rd h (fun φ z => by cases z))
    exact ⟨its, r, ⟨_, n, e, rfl, rfl, rfl⟩, z⟩
  · obtain ⟨_, z, its, n, r, e⟩ := F.hok a _ (rd h (fun φ z => by cases z))
    exact ⟨its, r, ⟨_, n, e, rfl, rfl, rfl⟩, z⟩
  · refine ⟨its.toList, r, ⟨o, n, F.kin a o hk, hc, hd, by simpa using hs⟩, ?_⟩
    have e := r.length
    simp only [Array.length_toList] at e
    omega
theorem Fc.tuple (F : Fc X σ H P scope x u cenv A' s₂ m₂) (hT : Tab H P) {a : Addr} {xs : List V} (h : SqT X.K H a xs) : ∃ its : List Value, Vals xs its ∧ IsTup s₂.heap a its.toArray ∧ xs.length ≤ sizeLine := by
  have rd : ∀ {o : HO}, H a = some o → (∀ φ, o ≠ .ext φ) → but P H a = some o := fun {o} e n => by
    rw [but_ne fun z => by rw [z, hT] at e; exact n _ (Option.some.inj e).symm]
    exact e
  rcases h with (h | ⟨o, h⟩) | ⟨o, its, n, hk, hc, hs, hz, r⟩
  · obtain ⟨z, its, r, p⟩ := F.hok a _ (rd h (fun φ z => by cases z))
    exact ⟨its, r, p, z⟩
  · obtain ⟨_, z, its, r, p⟩ := F.hok a _ (rd h (fun φ z => by cases z))
    exact ⟨its, r, p, z⟩
  · refine ⟨its.toList, r, ⟨o, F.kin a o hk, hc, n, by simpa using hs⟩, ?_⟩
    have e := r.length
    simp only [Array.length_toList] at e
    omega
end
/-- the expression has the value z there -/
def QV (X : Cx) (σ : L2.St) (H : Hp) (P : Addr) (scope : Scope) (x : Str) (u : Value) (e : Expr) (z : V) : Prop :=
  ∀ (cenv : Env) (A' : Around) (E' : Value → Shared → Prop) (s₂ : Shared) (m₂ : Str → Option Value), Fc X σ H P scope x u cenv A' s₂ m₂ → wpAny (model X.prog X.w) A' (eval e cenv) (fun y s₃ => RelV z y ∧ Keeps s₂ s₃) E' s₂
section
variable {X : Cx} {σ : L2.St} {H : Hp} {P : Addr} {scope : Scope} {x : Str} {u : Value} {a b : Expr} {za zb z : V} {pos : Pos}
theorem qv_x (hk : scope.kind = .function) (hl : scope.names.lookup x = some .local) (r : RelV z u) (hd : (x == ("__debug__" : Str)) = false := by decide) : QV X σ H P scope x u (.Name x pos) z := fun cenv A' E' s m F =>
  wpAny_Name (wpAny_loadName_local (by rw [F.sc]; exact hk) (show cenv.scope.names.lookup x = some .local by rw [F.sc]; exact hl) F.ns F.mx ⟨r, kp_refl _⟩) hd
theorem qv_cap {i : Nat} {y : Str} (hk : scope.kind = .function) (hl : scope.names.lookup y = some .free) (hN : X.N[i]? = some y) (hs : σ[i]? = some (some z)) (hv : X.env.kindOf y = some .cell ∨ X.env.kindOf y = some .free := by first | exact Or.inl rfl | exact Or.inr rfl) (hd : (y == ("__debug__" : Str)) = false := by decide) (hcd : (y == ("__classdict__" : Str)) = false := by decide) :
    QV X σ H P scope x u (.Name y pos) z := fun cenv A' E' s m F => by
  obtain ⟨r, c, h1, h2, h3⟩ := F.cap i y z hN hs hv hl
  exact wpAny_Name (wpAny_loadName_free (by rw [F.sc]; exact hk) (show cenv.scope.names.lookup y = some .free by rw [F.sc]; exact hl) h2 h3 ⟨h1, kp_refl _⟩ hcd) hd
theorem qv_glob {y : Str} {r : Value} (hk : scope.kind = .function) (hl : scope.names.lookup y = some .globalImplicit) (hm : X.mg y = some r) (h : RelV z r) (hd : (y == ("__debug__" : Str)) = false := by decide) :
    QV X σ H P scope x u (.Name y pos) z := fun cenv A' E' s m F =>
  Calls.Name_function_global (by rw [F.sc]; exact hk) (show cenv.scope.names.lookup y = some .globalImplicit by rw [F.sc]; exact hl) (Calls.loadGlobal_global (by rw [F.gl]; exact F.md.glob.keeps F.base) hm ⟨h, kp_refl _⟩) hd
theorem qv_int {i : Int} {j : Nat} : QV X σ H P scope x u (.Constant (.int i) j pos) (.int i) := fun cenv A' E' s m F => wpAny_Constant_int ⟨⟨_, rfl⟩, kp_tok _ _⟩
theorem qv_str {i : Str} {j : Nat} : QV X σ H P scope x u (.Constant (.str i) j pos) (.str i) := fun cenv A' E' s m F => Calls.Constant_str ⟨⟨_, rfl⟩, kp_tok _ _⟩
/-- an operation on two values -/
def QR (X : Cx) (σ : L2.St) (H : Hp) (P : Addr) (scope : Scope) (x : Str) (u : Value) (f : Value → Value → Sem Value) (za zb z : V) : Prop :=
  ∀ (cenv : Env) (A' : Around) (E' : Value → Shared → Prop) (s₂ : Shared) (m₂ : Str → Option Value) (v w : Value), Fc X σ H P scope x u cenv A' s₂ m₂ → RelV za v → RelV zb w → wpAny (model X.prog X.w) A' (f v w) (fun y s₃ => RelV z y ∧ Keeps s₂ s₃) E' s₂
theorem qv_two {f : Value → Value → Sem Value} (ha : QV X σ H P scope x u a za) (hb : QV X σ H P scope x u b zb) (hr : QR X σ H P scope x u f za zb z) (cenv : Env) (A' : Around) (E' : Value → Shared → Prop) (s : Shared) (m : Str → Option Value) (F : Fc X σ H P scope x u cenv A' s m) :
    wpAny (model X.prog X.w) A' (eval a cenv) (fun v s₁ => wpAny (model X.prog X.w) A' (eval b cenv) (fun w s₂ => wpAny (model X.prog X.w) A' (f v w) (fun y s₃ => RelV z y ∧ Keeps s s₃) E' s₂) E' s₁) E' s :=
  wpAny_mono (ha cenv A' E' s m F) (fun v s1 r1 => wpAny_mono (hb cenv A' E' s1 m (F.keeps r1.2)) (fun w s2 r2 => wpAny_mono (hr cenv A' E' s2 m v w ((F.keeps r1.2).keeps r2.2) r1.1 r2.1)
    (fun y s3 r3 => ⟨r3.1, kp_trans (kp_trans r1.2 r2.2) r3.2⟩) fun _ _ e => e) fun _ _ e => e) fun _ _ e => e
theorem qv_cmp {op : CmpOp} (hr : QR X σ H P scope x u (compareOp op) za zb z) (ha : QV X σ H P scope x u a za) (hb : QV X σ H P scope x u b zb) (hm : behindInMarks op b = false) : QV X σ H P scope x u (.Compare a [op] [b] pos) z := fun cenv A' E' s m F =>
  wpAny_Compare1 (qv_two ha hb hr cenv A' E' s m F) hm
theorem qv_op {op : Operator} (hr : QR X σ H P scope x u (binaryOp op) za zb z) (ha : QV X σ H P scope x u a za) (hb : QV X σ H P scope x u b zb) : QV X σ H P scope x u (.BinOp a op b pos) z := fun cenv A' E' s m F =>
  wpAny_BinOp (qv_two ha hb hr cenv A' E' s m F)
theorem qv_ix (hr : ∀ value slice, subscripted slice false = subscripted slice false → QR X σ H P scope x u (fun v w => subscriptTail value slice v w) za zb z) (ha : QV X σ H P scope x u a za) (hb : QV X σ H P scope x u b zb) : QV X σ H P scope x u (.Subscript a b pos) z := fun cenv A' E' s m F =>
  Subscript_ (qv_two ha hb (hr a b rfl) cenv A' E' s m F)
theorem qr_add {i j : Int} : QR X σ H P scope x u (binaryOp .Add) (.int i) (.int j) (.int (i + j)) := fun cenv A' E' s m v w F r1 r2 => by
  obtain ⟨t, rfl⟩ := r1
  obtain ⟨t', rfl⟩ := r2
  exact add_int ⟨⟨_, rfl⟩, kp_tok _ _⟩
theorem qr_ne_int {i j : Int} : QR X σ H P scope x u (compareOp .NotEq) (.int i) (.int j) (.bl (i != j)) := fun cenv A' E' s m v w F r1 r2 => by
  obtain ⟨t, rfl⟩ := r1
  obtain ⟨t', rfl⟩ := r2
  exact ne_int ⟨rfl, kp_refl _⟩
theorem qr_le_int {i j : Int} : QR X σ H P scope x u (compareOp .LtE) (.int i) (.int j) (.bl (decide (i ≤ j))) := fun cenv A' E' s m v w F r1 r2 => by
  obtain ⟨t, rfl⟩ := r1
  obtain ⟨t', rfl⟩ := r2
  exact le_int ⟨rfl, kp_refl _⟩
theorem qr_ne_str {i j : Str} : QR X σ H P scope x u (compareOp .NotEq) (.str i) (.str j) (.bl (i.cps.toList != j.cps.toList)) := fun cenv A' E' s m v w F r1 r2 => by
  obtain ⟨t, rfl⟩ := r1
  obtain ⟨t', rfl⟩ := r2
  exact PySem.P.ne_str ⟨rfl, kp_refl _⟩
theorem qr_in_sign {c : Nat} {j : Str} : QR X σ H P scope x u (compareOp .In) (.str ⟨#[c]⟩) (.str j) (.bl (decide (c ∈ j.cps.toList))) := fun cenv A' E' s m v w F r1 r2 => by
  obtain ⟨t, rfl⟩ := r1
  obtain ⟨t', rfl⟩ := r2
  exact PyProof.Rows.in_str ⟨(PySem.StrLaws.found_one j c).symm ▸ rfl, kp_refl _⟩
end

/-! ### what is walked -/
def SrcV (K : PySem.W.Frag) (H : Hp) (v : V) (n : Nat) (xs : Nat → V) : Prop :=
  (∃ (a : Addr) (l : List V), v = .ref a ∧ SqL K H a l ∧ n = l.length ∧ ∀ i, xs i = l.getD i .non) ∨
  (∃ z : Str, v = .str z ∧ n = z.cps.size ∧ ∀ i c, z.cps[i]? = some c → xs i = .str ⟨#[c]⟩) ∨
  (∃ (a : Addr) (lo hi : Int), v = .ref a ∧ H a = some (.rng lo hi) ∧ n = (hi - lo).toNat ∧ -(2 ^ 62) ≤ lo ∧ lo < 2 ^ 62 ∧ -(2 ^ 62) ≤ hi ∧ hi < 2 ^ 62 ∧ ∀ i : Nat, xs i = .int (lo + i))
section
variable {X : Cx} {pins : List (Addr × Obj)} {σ : L2.St} {H : Hp} {s : Shared}
theorem src_iter {v : V} {xv : Value} {n : Nat} {xs : Nat → V} {P : Addr} {Q : Value → Shared → Prop} {E : Value → Shared → Prop} (S : SrcV X.K H v n xs) (I : Inv X pins σ H s) (r : RelV v xv) (hT : Tab H P)
    (h : ∀ (o : Obj) (fp : List Addr) (Pf : Nat → Value → Prop) (St : Nat → Heap → Prop), (∀ i u, Pf i u → i < n → RelV (xs i) u) → (∀ A' : Around, A'.handled = none → Walks X.prog X.w A' s.heap.objs.size fp [s.heap.objs.size] n Pf St) →
      St 0 (s.heap.push o) → (∀ b ∈ fp, b ≤ s.heap.objs.size ∧ b ≠ P) → Q (.ref s.heap.objs.size) { s with heap := s.heap.push o }) : wpAny (model X.prog X.w) X.A (pyIter xv) Q E s := by
  have Plt : P < s.heap.objs.size := Heap.lt_size (hT.of_ok I.hok).choose_spec.1
  have szP : s.heap.objs.size ≠ P := fun z => Nat.lt_irrefl _ (z ▸ Plt : s.heap.objs.size < s.heap.objs.size)
  rcases S with ⟨a, l, rfl, hl, rfl, hx⟩ | ⟨z, rfl, rfl, hx⟩ | ⟨a, lo, hi, rfl, ha, rfl, b1, b2, b3, b4, hx⟩
  · cases r
    obtain ⟨its, rv, pl, _⟩ := I.list hl
    have hal : a < s.heap.objs.size := let ⟨_, e, _⟩ := pl.isList; Heap.lt_size e
    have naP : a ≠ P := fun e => by
      obtain ⟨ps, e1, _⟩ := hT.of_ok I.hok
      obtain ⟨o, n, e2, e3, _, e4⟩ := pl
      rw [e, e1] at e2
      cases e2
      cases e3
    refine wpAny_pyIter_list pl.isList ?_
    have hne : a ≠ s.heap.objs.size := Nat.ne_of_lt hal
    have en : its.toArray.size = l.length := by rw [List.size_toArray]; exact rv.length.symm
    refine h _ [s.heap.objs.size, a] (fun i v => its.toArray[i]? = some v) (fun i h => h.IsListIter s.heap.objs.size a i ∧ h.IsList a its.toArray) (fun i u hu hi => ?_) (fun A' hA => by rw [← en]; exact Walks.list hA _ a hne its.toArray) ⟨⟨_, Heap.get?_push_size _ rfl, rfl, rfl⟩, pl.isList.at fun o e => Heap.get?_push_of_some _ e⟩ fun b hb => ?_
    · obtain ⟨w, ew, rw'⟩ := rv.get (List.getElem?_eq_getElem hi)
      have e2 : its.toArray[i]? = some w := by simpa using ew
      rw [e2] at hu
      cases hu
      rw [hx, List.getD_eq_getElem?_getD, List.getElem?_eq_getElem hi]
      exact rw'
    · rcases List.mem_cons.mp hb with e | hb
      · rw [e]
        exact ⟨Nat.le_refl _, szP⟩
      · rw [List.mem_singleton.mp hb]
        exact ⟨Nat.le_of_lt hal, naP⟩
  · obtain ⟨t, rfl⟩ := r
    refine wpAny_pyIter_str fun o St W hst => ?_
    refine h o [s.heap.objs.size] (SignAt z) St (fun i u hu hi => ?_) W hst fun b hb => ?_
    · obtain ⟨c, t', hc, rfl⟩ := hu
      rw [hx i c hc]
      exact ⟨_, rfl⟩
    · rw [List.mem_singleton.mp hb]
      exact ⟨Nat.le_refl _, szP⟩
  · cases r
    obtain ⟨t, t1, t2, e⟩ := I.hok a _ ha
    refine wpAny_pyIter_range (a := lo) (b := hi) (c := 1) e (small_one b1 b2 b3 b4) ?_
    have en : ((Builtin.Range.rangeSize lo hi 1 : Int)) = (((hi - lo).toNat : Nat) : Int) := by
      unfold Builtin.Range.rangeSize
      simp
      omega
    refine h _ [s.heap.objs.size] (fun i v => ∃ t, v = .int (lo + i * 1) t) _ (fun i u hu hi => ?_) (fun A' hA => Walks.range hA _ lo 1 _) ?_ fun b hb => ?_
    · obtain ⟨t, rfl⟩ := hu
      rw [hx]
      exact ⟨t, by rw [Int.mul_one]⟩
    · rw [en]
      show IsRangeIter _ _ (lo + ((0 : Nat) : Int) * 1) ((((hi - lo).toNat : Nat) : Int) - ((0 : Nat) : Int)) 1
      rw [show lo + ((0 : Nat) : Int) * 1 = lo by simp, show (((hi - lo).toNat : Nat) : Int) - ((0 : Nat) : Int) = (((hi - lo).toNat : Nat) : Int) by simp]
      exact Heap.get?_push_size _ rfl
    · rw [List.mem_singleton.mp hb]
      exact ⟨Nat.le_refl _, szP⟩
end
theorem lookup_mem' {α : Type} : ∀ {l : List (Str × α)} {n : Str} {c : α}, l.lookup n = some c → (n, c) ∈ l
  | [], _, _, h => by cases h
  | (k, v) :: r, n, c, h => by
    rw [List.lookup_cons] at h
    cases hb : n == k with
    | true =>
      rw [hb] at h
      cases h
      rw [beq_iff_eq.mp hb]
      exact List.mem_cons_self
    | false =>
      rw [hb] at h
      exact List.mem_cons_of_mem _ (lookup_mem' h)
theorem walks_lt {prog : Program} {w : World} {A : Around} {I : Addr} {fp wr : List Addr} {n : Nat} {Pf : Nat → Value → Prop} {St : Nat → Heap → Prop} (W : Walks prog w A I fp wr n Pf St) : Walks prog w A I fp wr n (fun i u => i < n ∧ Pf i u) St where
  sub := W.sub
  frame := W.frame
  item := fun i s Q E hi st hQ => W.item i s Q E hi st fun v h' tk hp => hQ v h' tk ⟨hi, hp⟩
  done := W.done
  self := W.self
theorem clo_lookup {cells : List (Str × Addr)} {names : List (Str × NameKind)} {y : Str} {c : Addr} (hy : (y, NameKind.free) ∈ names) (hc : cells.lookup y = some c) : (cloFrom cells names []).lookup y = some c := by
  obtain ⟨c', h⟩ := mem_lookup (cloFrom_has (cells := cells) (acc := []) hy)
  rcases cloFrom_mem (lookup_mem' h) with z | ⟨_, z⟩
  · cases z
  · rw [h, z, hc]
    rfl
section
variable {X : Cx} {pins : List (Addr × Obj)} {σ : L2.St} {H : Hp} {s : Shared}
/-- the table has grown: nothing that is tracked changes -/
theorem inv_grown {P : Addr} {s' : Shared} (I : Inv X pins σ H s) (hT : Tab H P) (k : ∀ b o, b ≠ P → s.heap.get? b = some o → s'.heap.get? b = some o) (hP : TabPhi P s'.heap) (ho : s'.os = s.os) (hg : AllBare s'.gens) : Inv X pins σ H s' := by
  have nN : ∀ b, H b = none → b ≠ P := fun b e z => by
    rw [z, hT] at e
    cases e
  have J := I.step (h' := s'.heap) (H' := H) (g' := s'.gens) (t' := s'.toks) (d' := s'.drawn) (ch := []) (fun b hb => absurd hb (by simp)) (fun b o _ _ _ e n => k b o (nN b n) e) (fun b o _ _ _ e n => ⟨o.slots, k b o (nN b n) e⟩) (fun b o _ _ n => n)
    (fun b o _ e => by
      by_cases hb : b = P
      · rw [hb]
        exact ⟨_, hP.choose_spec.1⟩
      · exact ⟨o, k b o hb e⟩)
    (fun b xs e => e) (fun b o u e => e) (fun b ps e => ⟨#[], by rw [e]; simp⟩) (fun m ⟨ob, es, ep, e, r⟩ => ⟨ob, es, ep, k _ ob (nN _ I.free) e, r⟩)
    (fun b u e => by
      by_cases hb : b = P
      · subst hb
        rw [hT] at e
        cases e
        exact tab_ok hP
      · refine (I.hok b u e).stay (fun d v hd q => k d v ?_ q) (fun d q => q) fun d xs q => q
        rcases hd with z | z
        · rw [z]
          exact hb
        · intro e2
          rw [e2, hT] at z
          cases z) hg
  have e : ({ s with heap := s'.heap, gens := s'.gens, drawn := s'.drawn, toks := s'.toks } : Shared) = s' := by
    cases s'
    cases ho
    rfl
  rw [e] at J
  exact J
/-- the generator g, ready to be walked -/
def RdyG (X : Cx) (pins : List (Addr × Obj)) (σ : L2.St) (H : Hp) (n : Nat) (f : Nat → Bool) (g : Addr) (s5 : Shared) : Prop :=
  ∃ (fp wr : List Addr) (G : Array GenState → Array GenState → Prop) (F : Nat → Value → Prop) (St : Nat → Shared → Prop), WalksS X.prog X.w X.A.in1 g fp wr G n F St ∧ St 0 s5 ∧ TruthOf X.prog X.w X.A.in1 F f ∧ ∀ s', Moved wr G s5 s' → Inv X pins σ H s'
theorem gen_make {c P : Addr} {elt iter : Expr} {x : Str} {px gpos : Pos} {scope : Scope} {te : TE} {k : Nat} {Q' : Value → Shared → Prop} {R : Nat → (Nat → Bool) → Hp → Prop}
    (hr : Room k X.A) (TB : LamX.TabB X.base X.mg c P) (hcode : X.env.code = .ref c) (S : GxR.GenS X.env scope x) (hi : PE X iter te) (hs : ∀ v, genFold iter X.env v = pure v) (I : Inv X pins σ H s)
    (h : te σ H fun v H1 => Tab H1 P ∧ ∃ (n : Nat) (xs : Nat → V) (f : Nat → Bool), SrcV X.K H1 v n xs ∧ (∀ i u, i < n → RelV (xs i) u → QV X σ H1 P scope x u elt (.bl (f i))) ∧ R n f H1)
    (hQ : ∀ n f H1 g s5, R n f H1 → RdyG X pins σ H1 n f g s5 → Q' (.ref g) s5) :
    wpAny (model X.prog X.w) X.A (eval (.GeneratorExp elt [⟨.Name x px, iter, [], 0⟩] scope gpos) X.env) Q' X.xe s := by
  refine wpAny_GeneratorExp_walksQD hr.hd S.co (closure_ok S.free) S.cell S.dot S.loc S.kind hr.depth ?_ hs
  refine thn (hi.run pins s σ H _ I h) fun xv s1 ⟨v, H1, I1, r1, hT, n, xs, f, hsrc, hel, hR⟩ => ?_
  refine src_iter hsrc I1 r1 hT fun o fp Pf St hPf hW hst hfp => ?_
  obtain ⟨ps, hPs, ht⟩ := hT.of_ok I1.hok
  have hPlt : P < s1.heap.objs.size := Heap.lt_size hPs
  have hP2 : (s1.heap.push o).get? P = some { cls := .none, data := .fields ps } := Heap.get?_push_of_some _ hPs
  have cd : PySem.W.CodeHd (s1.heap.push o) c P := TB.code.keeps fun b u e => Heap.get?_push_of_some _ (I1.bk b u e)
  have lim2 : (s1.heap.push o).NoLimit := I1.nolimit.push o
  have hcP : cStatics ≠ P := fun e => by
    obtain ⟨_, ⟨o', es, ep, ho, hd, _⟩, _⟩ := I1.nolimit
    rw [e, hPs] at ho
    cases ho
    cases hd
  have hcl : cStatics < s1.heap.objs.size := let ⟨_, hns, _⟩ := I1.nolimit; hns.lt
  have sz2 : (s1.heap.push o).objs.size = s1.heap.objs.size + 1 := Heap.size_push ..
  have nTb : ∀ b, H1 b = none → b ≠ P := fun b e z => by
    rw [z, hT] at e
    cases e
  -- what is left once the code object is known
  have go : ∀ (code : Value) (h3 : Heap) (tk : Nat) (ps' : Array Value), Heap.ExtBut P (s1.heap.push o) h3 → (s1.heap.push o).objs.size ≤ h3.objs.size → h3.get? P = some { cls := .none, data := .fields ps' } → TriplesOk ps'.toList →
      wpAny (model X.prog X.w) X.A (builtinsFor X.env.globals X.env.builtins) (fun bi s₄ => ∃ I fp wr n₀ Pg St₀ pz F, Value.ref s1.heap.objs.size = .ref I ∧ (∀ A' : Around, A'.handled = none → Walks X.prog X.w A' I fp wr n₀ Pg St₀) ∧ St₀ 0 s₄.heap ∧ (∀ b ∈ fp, b < s₄.heap.objs.size) ∧ s₄.heap.NoLimit ∧ cStatics ∉ wr ∧
          (∀ href : Heap, (∀ b o, s₄.heap.get? b = some o → href.get? b = some o) → QuietGenD X.prog X.w (genEnv scope (cloFrom X.env.cells scope.names []) s₄.heap.objs.size code bi X.env) x [] elt (List.range s₄.heap.objs.size) wr Pg pz F href (X.A.depth + 1) (X.A.units + 8)) ∧
          (∀ a h₅ tk gs, gs.bare = true → s₄.heap.objs.size < a → h₅.objs.size = a + 1 → (∀ b o, s₄.heap.get? b = some o → h₅.get? b = some o) →
            WalksS X.prog X.w X.A.in4 a (a :: s₄.heap.objs.size :: List.range s₄.heap.objs.size) (s₄.heap.objs.size :: wr) (GenOnlyQ s₄.gens.size) (passing pz n₀ 0).length (fun j y => ∃ i, (passing pz n₀ 0)[j]? = some i ∧ F i y) (GenAt X.prog X.w X.A.in4 a s₄.gens.size s₄.heap.objs.size (List.range s₄.heap.objs.size) wr pz n₀ F) →
            GenAt X.prog X.w X.A.in4 a s₄.gens.size s₄.heap.objs.size (List.range s₄.heap.objs.size) wr pz n₀ F 0 { s₄ with gens := s₄.gens.push gs, toks := tk, heap := h₅ } →
            Q' (.ref a) { s₄ with gens := s₄.gens.push gs, toks := tk, heap := h₅ })) X.xe { s1 with heap := h3, toks := tk } := by
    intro code h3 tk ps' hx hsz hP3 ht3
    obtain ⟨bm, ob, e1, e2, e3, e4, e5, e6, e7, e8⟩ := TB.bm
    have keep3 : ∀ b u, b ≠ P → s1.heap.get? b = some u → h3.get? b = some u := fun b u hb e => hx b u hb (Heap.get?_push_of_some _ e)
    refine wpAny_builtinsFor (m := X.mg) (by rw [I1.ok.glob]; exact ((I1.mod.glob.keeps I1.bk).push o).extBut hx TB.gP) e1 e2 (keep3 _ _ e4 (I1.bk _ _ e5)) e6 e7 e8 ?_
    have hsz3 : s1.heap.objs.size < h3.objs.size := by omega
    refine ⟨s1.heap.objs.size, fp, [s1.heap.objs.size], n, fun i u => i < n ∧ Pf i u, St, fun _ => true, fun i y => y = .bool (f i), rfl, fun A' hA => walks_lt (hW A' hA), ?_, fun b hb => Nat.lt_of_le_of_lt (hfp b hb).1 hsz3, lim2.extBut hx hcP, ?_, ?_, ?_⟩
    · exact (hW X.A hr.hd).frame _ _ _ hst fun b hb u e => hx b u (hfp b hb).2 e
    · intro z
      rw [List.mem_singleton.mp z] at hcl
      exact Nat.lt_irrefl _ hcl
    · intro href hhref
      refine ⟨fun A' E' i v s₂ m₂ hA hD hU hPv hn hm hk => ?_, fun A' E' i v s₂ m₂ hA hD hU hPv hp hn hm hk => ?_⟩
      · simp only [List.forIn_nil]
        exact wpAny_pure ⟨rfl, kp_refl _⟩
      · have kept : ∀ b u, b ≠ P → s1.heap.get? b = some u → s₂.heap.get? b = some u := fun b u hb e => by
          have hlt := Heap.lt_size e
          refine hk b (List.mem_range.mpr ?_) (fun z => ?_) u (hhref b u (keep3 b u hb e))
          · show b < h3.objs.size
            exact Nat.lt_trans hlt hsz3
          · rw [List.mem_singleton.mp z] at hlt
            exact Nat.lt_irrefl _ hlt
        refine wpAny_mono (hel i v hPv.1 (hPf i v hPv.2 hPv.1) _ A' E' s₂ m₂ ⟨hA, hD, hU, rfl, I1.ok.glob, rfl, hn, hm, fun b u e => kept b u (nTb b (I1.bs b u e).2) (I1.bk b u e), I1.mod, fun b u e => ?_, fun j y w hN hσ hv hfr => ?_⟩) (fun y s3 r => ⟨r.1, r.2⟩) fun _ _ e => e
        · have hb : b ≠ P := fun z => by
            rw [z] at e
            unfold but at e
            rw [if_pos rfl] at e
            cases e
          rw [but_ne hb] at e
          refine (I1.hok b u e).stay (fun d w hd q => kept d w ?_ q) (fun d q => ?_) fun d ys q => ?_
          · rcases hd with z | z
            · rw [z]
              exact hb
            · intro e2
              rw [e2, hT] at z
              cases z
          · rw [but_ne fun e2 => by rw [e2, hT] at q; cases q]
            exact q
          · rw [but_ne fun e2 => by rw [e2, hT] at q; cases q]
            exact q
        · obtain ⟨m, hn1, hl⟩ := I1.loc
          obtain ⟨r, rv, l⟩ := hl j y w hN hσ (hv.elim (fun z => Or.inr (Or.inl z)) (fun z => Or.inr (Or.inr z)))
          rcases l with ⟨z, _⟩ | ⟨_, cc, hc, oc, he, hd⟩
          · rcases hv with z2 | z2
            · rw [z] at z2; cases z2
            · rw [z] at z2; cases z2
          · exact ⟨r, cc, rv, clo_lookup (lookup_mem' hfr) hc, oc, kept cc oc (nTb cc (I1.freeC y cc hc)) he, hd⟩
    · intro g h5 tk5 gs hgb hag hsz5 hk5 W5 hat
      simp only [GxR.passing_true, List.length_range] at W5
      refine hQ n f H1 g _ hR ⟨_, _, _, _, _, W5.in4_1, hat, fun j y sj Qj Ej hy hQj => ?_, fun s' hm => ?_⟩
      · obtain ⟨i, hij, rfl⟩ := hy
        obtain ⟨hj, ej⟩ := List.getElem?_eq_some_iff.mp hij
        rw [List.getElem_range] at ej
        subst ej
        exact wpAny_truthy_bool hQj
      · have nwr : ∀ b u, s1.heap.get? b = some u → b ∉ h3.objs.size :: [s1.heap.objs.size] := fun b u e hb => by
          have hl := Heap.lt_size e
          rcases List.mem_cons.mp hb with z | z
          · rw [z] at hl
            exact Nat.lt_irrefl _ (Nat.lt_trans hl hsz3)
          · rw [List.mem_singleton.mp z] at hl
            exact Nat.lt_irrefl _ hl
        exact inv_grown I1 hT (fun b u hb e => hm.heap b u (nwr b u e) (hk5 b u (keep3 b u hb e))) ⟨ps', hm.heap P _ (nwr P _ hPs) (hk5 P _ hP3), ht3⟩ hm.os (AllBare.movedS (I1.bare.push hgb) hm)
  refine ⟨lim2, ?_⟩
  cases hf : codeAmong gpos ps.toList with
  | some cv => exact wpAny_genexprCode_hit hcode (cd.code hP2 ht) hf (go cv (s1.heap.push o) s1.toks ps (Heap.ExtBut.refl _ _) (Nat.le_refl _) hP2 ht)
  | none =>
    refine wpAny_genexprCodeX hcode (cd.code hP2 ht) (cd.tab hP2) hf fun c' h' tk hx hge hlt hco' _ htab' _ => ?_
    obtain ⟨_, _, _, _, _, _, _, _, _, _, _, _, _, _, _, _, _, _, _, htr, _⟩ := hco'
    exact go _ h' tk _ hx (Nat.le_trans hge (Nat.le_of_lt hlt)) htab'.2 htr
/-- all(.. for x in e), any(.. for x in e) -/
def tGen (X : Cx) (P : Addr) (scope : Scope) (x : Str) (elt : Expr) (fin : Nat → (Nat → Bool) → Bool) (te : TE) : TE := fun σ H Q => te σ H fun v H1 => Tab H1 P ∧ ∃ (n : Nat) (xs : Nat → V) (f : Nat → Bool), SrcV X.K H1 v n xs ∧ (∀ i u, i < n → RelV (xs i) u → QV X σ H1 P scope x u elt (.bl (f i))) ∧ Q (.bl (fin n f)) H1
def allF (n : Nat) (f : Nat → Bool) : Bool := (List.range n).all f
def anyF (n : Nat) (f : Nat → Bool) : Bool := (List.range n).any f
theorem pe_all {c P : Addr} {elt iter : Expr} {x : Str} {px p pos gpos : Pos} {scope : Scope} {te : TE} {k : Nat} (hr : Room k X.A) (hg : Gl X "all") (hm : X.mg "all" = none) (hb : bootBuiltins "all" = some (.builtin "all")) (TB : LamX.TabB X.base X.mg c P) (hcode : X.env.code = .ref c) (S : GxR.GenS X.env scope x)
    (hi : PE X iter te) (hs : ∀ v, genFold iter X.env v = pure v)
    (he : starEach [.GeneratorExp elt [⟨.Name x px, iter, [], 0⟩] scope gpos] X.env = (false, eval (.GeneratorExp elt [⟨.Name x px, iter, [], 0⟩] scope gpos) X.env) :: starEach [] X.env := by rfl) :
    PE X (.Call (.Name "all" p) [.GeneratorExp elt [⟨.Name x px, iter, [], 0⟩] scope gpos] [] pos) (tGen X P scope x elt allF te) := by
  refine ⟨fun pins s σ H Q I h => wpAny_Call_Name_kw (ld_blt I hg hm hb (PyProof.Rows.callWith_builtin1 ?_ he (by rfl)))⟩
  rw [he]
  show wpAny _ _ (spliced ((false, eval (.GeneratorExp elt [⟨.Name x px, iter, [], 0⟩] scope gpos) X.env) :: backTo pos (starEach [] X.env))) _ _ s
  refine Calls.spliced_cons (gen_make (R := fun n f H1 => Q (.bl (allF n f)) H1) hr TB hcode S hi hs I h fun n f H1 g s5 hR ⟨fp, wr, G, F, St₁, W, hst, htr, hI⟩ => Calls.spliced_nil ?_)
  exact call_all_walkS (W.self 0 _ _ _ hst ⟨g, fp, wr, G, _, F, St₁, _, rfl, W, hst, htr, fun s' hmv => ⟨.bl _, H1, hI s' hmv, rfl, hR⟩⟩)
theorem pe_any {c P : Addr} {elt iter : Expr} {x : Str} {px p pos gpos : Pos} {scope : Scope} {te : TE} {k : Nat} (hr : Room k X.A) (hg : Gl X "any") (hm : X.mg "any" = none) (TB : LamX.TabB X.base X.mg c P) (hcode : X.env.code = .ref c) (S : GxR.GenS X.env scope x)
    (hi : PE X iter te) (hs : ∀ v, genFold iter X.env v = pure v)
    (he : starEach [.GeneratorExp elt [⟨.Name x px, iter, [], 0⟩] scope gpos] X.env = (false, eval (.GeneratorExp elt [⟨.Name x px, iter, [], 0⟩] scope gpos) X.env) :: starEach [] X.env := by rfl) :
    PE X (.Call (.Name "any" p) [.GeneratorExp elt [⟨.Name x px, iter, [], 0⟩] scope gpos] [] pos) (tGen X P scope x elt anyF te) := by
  refine ⟨fun pins s σ H Q I h => wpAny_Call_Name_kw (ld_blt I hg hm boot_any (PyProof.Rows.callWith_builtin1 ?_ he (by rfl)))⟩
  rw [he]
  show wpAny _ _ (spliced ((false, eval (.GeneratorExp elt [⟨.Name x px, iter, [], 0⟩] scope gpos) X.env) :: backTo pos (starEach [] X.env))) _ _ s
  refine Calls.spliced_cons (gen_make (R := fun n f H1 => Q (.bl (anyF n f)) H1) hr TB hcode S hi hs I h fun n f H1 g s5 hR ⟨fp, wr, G, F, St₁, W, hst, htr, hI⟩ => Calls.spliced_nil ?_)
  exact call_any_walkS (W.self 0 _ _ _ hst ⟨g, fp, wr, G, _, F, St₁, _, rfl, W, hst, htr, fun s' hmv => ⟨.bl _, H1, hI s' hmv, rfl, hR⟩⟩)
end
end LG

set_option Elab.async false
set_option linter.all false
set_option maxRecDepth 100000
set_option maxHeartbeats 4000000
namespace LS
open PySem PySem.Spec PyProof.Rows L2 Evl LT LG
/-! ### texts -/
section
variable {K : PySem.W.Frag} {σ : L2.St} {H : Hp} {ta tb tc te to : TE} {x y z v : V} {D : Ends} {tu tz : TS}
theorem rv_addS {i j : Str} (h : i.length + j.length ≤ sizeLine) : RV (fun x y H Q => ∃ i j, x = .str i ∧ y = .str j ∧ i.length + j.length ≤ sizeLine ∧ Q (.str (i ++ j)) H) (.str i) (.str j) H (.str (i ++ j)) := rv_val fun _ _ Q q => ⟨i, j, rfl, rfl, h, q⟩
theorem ev_lenS {z : Str} {ta : TE} (h : Ev ta σ H (.str z)) (hz : z.length ≤ sizeLine) : Ev (tCB (fun xs H Q => ∃ x, xs = [.str x] ∧ x.length ≤ sizeLine ∧ Q (.int x.length) H) (tCons ta tNil)) σ H (.int (z.length : Int)) := ev_cb (ea_cons h ea_nil) fun H1 _ Q q => ⟨z, rfl, hz, q H1 (Ex.refl H1)⟩
theorem ev_isi {x : V} {n : String} {t : Value} {b : Bool} (h : Ev ta σ H x) (hn : Ev tb σ H (.ty n)) (ht : ∀ H1, Ex H H1 → TyX K H1 x t) (hk : PySem.W.kitOne K t (.type n) = some b) : Ev (tCB (rIsi K) (tCons ta (tCons tb tNil))) σ H (.bl b) :=
  ev_cb (ea_cons h (ea_cons hn ea_nil)) fun H1 e Q q => ⟨x, .ty n, t, .type n, b, rfl, .ty n, ht H1 e, hk, q H1 (Ex.refl H1)⟩
/-- a < b < c over ints -/
theorem et_chain {f g : Int → Int → Bool} {i j k : Int} (ha : Ev ta σ H (.int i)) (hb : Ev tb σ H (.int j)) (hc : Ev tc σ H (.int k)) : EvT (tTest (tChain (rI0 fun i j => .bl (f i j)) (rI0 fun i j => .bl (g i j)) ta tb tc)) σ H (f i j && g j k) := fun H1 e Q q =>
  ha H1 e _ fun H2 e2 => hb H2 (e.trans e2) _ fun H3 e3 => ⟨i, j, rfl, rfl, f i j, rfl, by
    cases hf : f i j with
    | true =>
      rw [if_pos rfl]
      refine hc H3 ((e.trans e2).trans e3) _ fun H4 e4 => ⟨j, k, rfl, rfl, g j k, rfl, ?_⟩
      have := q H4 ((e2.trans e3).trans e4)
      rw [hf] at this
      exact this
    | false =>
      rw [if_neg Bool.false_ne_true]
      have := q H3 (e2.trans e3)
      rw [hf] at this
      exact ⟨false, rfl, this⟩⟩
theorem s_forS {zs : Str} {j : Nat} (h : Ev te σ H (.str zs)) (Pv : Nat → L2.St → Hp → Prop) (h0 : ∀ H1, Ex H H1 → Pv 0 σ H1)
    (hs : ∀ i c σ' H', zs.cps.toList[i]? = some c → Pv i σ' H' → tu { D with nx := Pv (i + 1), ct := Pv (i + 1), bk := D.nx } (σ'.set j (some (.str ⟨#[c]⟩))) H') (hd : ∀ σ' H', Pv zs.cps.toList.length σ' H' → D.nx σ' H') : tFor (iStr te) (gName j) tu D σ H :=
  h H (Ex.refl H) _ fun H1 e => ⟨zs, rfl, fun i m σ' H' => m + i = zs.cps.size ∧ Pv i σ' H', ⟨zs.cps.size, by omega, h0 H1 e⟩, fun i m σ' H' ⟨hm, p⟩ => by
    by_cases hi : i < zs.cps.size
    · refine .inr ⟨hi, Pv (i + 1), fun σ2 H2 p2 => ⟨m - 1, by omega, by omega, p2⟩, fun v H2 hy => ?_⟩
      obtain ⟨rfl, c, hc, rfl⟩ := hy
      exact hs i c σ' H2 (by rw [Array.getElem?_toList]; exact hc) p
    · have ei : i = zs.cps.toList.length := by
        rw [Array.length_toList]
        omega
      rw [ei] at p
      exact .inl ⟨Nat.le_of_not_lt hi, hd σ' H' p⟩⟩
theorem q_forS {zs : Str} {j : Nat} (h : Ev te σ H (.str zs)) (Pv : Nat → L2.St → Hp → Prop) (h0 : ∀ H1, Ex H H1 → Pv 0 σ H1)
    (hs : ∀ i c σ' H', zs.cps.toList[i]? = some c → Pv i σ' H' → tu { D with nx := Pv (i + 1), ct := Pv (i + 1), bk := tz D } (σ'.set j (some (.str ⟨#[c]⟩))) H') (hd : ∀ σ' H', Pv zs.cps.toList.length σ' H' → tz D σ' H') : tSeq (tFor (iStr te) (gName j) tu) tz D σ H :=
  s_forS (D := { D with nx := tz D }) h Pv h0 hs hd
theorem q_call {i : Nat} {sp : Sp} {dvs vs : List V} {E : XK} {tr : TA} (h : EvA tr σ H vs) (k : ∀ H1, Ex H H1 → sp (vs ++ dvs) H1 (fun v H2 => tz D (σ.set i (some v)) H2) E) : tSeq (tAsg (tCall sp dvs E tr) (gName i)) tz D σ H := h H (Ex.refl H) _ fun H1 e => k H1 e
/-- a call whose first argument is a new tuple -/
theorem ev_callU1 {sp : Sp} {dvs vs xs : List V} {E : XK} {tr : TA} (h : EvU ta σ H xs) (hr : EvA tr σ H vs) (hs : ∀ p H1, H1 p = some (.tup xs) → Ex H H1 → SpV sp ((.ref p :: vs) ++ dvs) H1 z) : Ev (tCall sp dvs E (tCons ta tr)) σ H z := fun H1 e Q q =>
  h H1 e _ fun p H2 hp e2 h2 => hr H2 (e.trans e2) _ fun H3 e3 => hs p H3 (e3 _ _ h2) ((e.trans e2).trans e3) H3 (Ex.refl _) Q (fun H4 e4 => q H4 ((e2.trans e3).trans e4)) E
theorem ev_index {W : WX} {a b : Str} {k : Nat} {tr : TA} (h : Ev to σ H (.str a)) (hb : EvA tr σ H [.str b]) (hk : Txt.index0 a b = some k) : Ev (tBMS K "str" (rIndexX W) to tr) σ H (.int (k : Int)) := fun H1 e Q q =>
  h H1 e _ fun H2 e2 => ⟨rfl, hb H2 (e.trans e2) _ fun H3 e3 => ⟨a, b, rfl, rfl, fun k' hk' => by
    rw [hk] at hk'
    cases hk'
    exact q H3 (e2.trans e3), fun hn => by
    rw [hk] at hn
    cases hn⟩⟩
theorem ev_find {a b : Str} (h : Ev to σ H (.str a)) (hb : Ev te σ H (.str b)) : Ev (tM1 (fun x xs H Q => ∃ a b, x = .str a ∧ xs = [.str b] ∧ Q (.int (Txt.find a b)) H) to te) σ H (.int (Txt.find a b)) := fun H1 e Q q =>
  h H1 e _ fun H2 e2 => ⟨⟨a, rfl⟩, hb H2 (e.trans e2) _ fun H3 e3 => ⟨a, b, rfl, rfl, q H3 (e2.trans e3)⟩⟩
theorem ev_slS {tl th : TO} {z : Str} {lo hi : Option Int} (h : Ev te σ H (.str z)) (h1 : EvO tl σ H lo) (h2 : EvO th σ H hi) (hz : z.length ≤ sizeLine) : Ev (tSl rSlS te tl th) σ H (.str (cutS z lo hi)) := fun H1 e Q q =>
  h H1 e _ fun H2 e2 => h1 H2 (e.trans e2) _ fun H3 e3 => h2 H3 ((e.trans e2).trans e3) _ fun H4 e4 => ⟨z, rfl, hz, q H4 ((e2.trans e3).trans e4)⟩
/-- text * int -/
def rMulS : R2 := fun x y H Q => ∃ a n, x = .str a ∧ y = .int n ∧ a.length ≤ 1000 ∧ 0 ≤ n ∧ n ≤ 1000 ∧ Q (.str (Txt.mul a n)) H
theorem rv_mulS {a : Str} {n : Int} (h1 : a.length ≤ 1000) (h2 : 0 ≤ n) (h3 : n ≤ 1000) : RV rMulS (.str a) (.int n) H (.str (Txt.mul a n)) := rv_val fun _ _ Q q => ⟨a, n, rfl, rfl, h1, h2, h3, q⟩
end
theorem mulOk {a : Str} {n : Int} (h1 : a.length ≤ 1000) (h2 : 0 ≤ n) (h3 : n ≤ 1000) : MulOk a n := by
  refine ⟨by simp; omega, fun h h' hh => ?_, fun h h' => ?_⟩
  · have p : (0 : Int) < n := by omega
    have m : (a.length : Int) * n ≤ 1000 * 1000 := Int.mul_le_mul (by omega) h3 h2 (by decide)
    have := (Int.le_ediv_iff_mul_le p).mpr (show (a.length : Int) * n ≤ 2 ^ 63 - 1 by omega)
    omega
  · have m : a.length * n.toNat ≤ 1000 * 1000 := Nat.mul_le_mul h1 (by omega)
    have z : sizeLine = 16777216 := rfl
    show decide (a.length * n.toNat > sizeLine) = false
    exact decide_eq_false (by omega)
theorem op_mul_str {X : Cx} : OpR X (binaryOp .Mult) rMulS := by
  intro pins s σ H x y v u Q I rx ry h
  obtain ⟨a, n, rfl, rfl, h1, h2, h3, q⟩ := h
  obtain ⟨t, rfl⟩ := rx
  obtain ⟨t', rfl⟩ := ry
  exact SB.mul (mulOk h1 h2 h3) fun t'' k => ⟨.str (Txt.mul a n), H, I.tok _, ⟨_, rfl⟩, q⟩
section
variable {X : Cx} {σ : L2.St} {H : Hp} {P : Addr} {scope : Scope} {x : Str} {elt : Expr} {te : TE} {fin : Nat → (Nat → Bool) → Bool}
theorem ev_gen {v : V} {n : Nat} {xs : Nat → V} {f : Nat → Bool} (h : Ev te σ H v) (hT : Tab H P) (hs : ∀ H1, Ex H H1 → SrcV X.K H1 v n xs) (he : ∀ H1, Ex H H1 → ∀ i u, i < n → RelV (xs i) u → QV X σ H1 P scope x u elt (.bl (f i))) :
    Ev (tGen X P scope x elt fin te) σ H (.bl (fin n f)) := fun H1 e Q q => h H1 e _ fun H2 e2 => ⟨hT.mono (e.trans e2), n, xs, f, hs H2 (e.trans e2), he H2 (e.trans e2), q H2 e2⟩
end
theorem allF_list {α : Type} (l : List α) (d : α) (p : α → Bool) : allF l.length (fun i => p (l.getD i d)) = l.all p := by
  unfold allF
  rw [Bool.eq_iff_iff, List.all_eq_true, List.all_eq_true]
  constructor
  · intro h y hy
    obtain ⟨i, hi, rfl⟩ := List.getElem_of_mem hy
    have q := h i (List.mem_range.mpr hi)
    rw [List.getD_eq_getElem?_getD, List.getElem?_eq_getElem hi] at q
    exact q
  · intro h i hi
    have hi' := List.mem_range.mp hi
    rw [List.getD_eq_getElem?_getD, List.getElem?_eq_getElem hi']
    exact h _ (List.getElem_mem hi')
theorem anyF_list {α : Type} (l : List α) (d : α) (p : α → Bool) : anyF l.length (fun i => p (l.getD i d)) = l.any p := by
  unfold anyF
  rw [Bool.eq_iff_iff, List.any_eq_true, List.any_eq_true]
  constructor
  · rintro ⟨i, hi, h⟩
    have hi' := List.mem_range.mp hi
    rw [List.getD_eq_getElem?_getD, List.getElem?_eq_getElem hi'] at h
    exact ⟨_, List.getElem_mem hi', h⟩
  · rintro ⟨y, hy, h⟩
    obtain ⟨i, hi, rfl⟩ := List.getElem_of_mem hy
    refine ⟨i, List.mem_range.mpr hi, ?_⟩
    rw [List.getD_eq_getElem?_getD, List.getElem?_eq_getElem hi]
    exact h
theorem src_str {K : PySem.W.Frag} {H : Hp} (z : Str) : SrcV K H (.str z) z.cps.toList.length (fun i => .str ⟨#[z.cps.toList.getD i 0]⟩) := .inr (.inl ⟨z, rfl, Array.length_toList, fun i c hc => by
  have e : z.cps.toList[i]? = some c := by rw [Array.getElem?_toList]; exact hc
  show V.str ⟨#[z.cps.toList.getD i 0]⟩ = V.str ⟨#[c]⟩
  rw [List.getD_eq_getElem?_getD, e]
  rfl⟩)
/-! ### a def whose code object is known -/
structure FunC (K : PySem.W.Frag) (x qual : Str) (st : Stmt) (f : Addr) (fd : FuncData) (c : Addr) : Prop where
  ex : ∃ (oc : Value) (od : Option Addr) (kV doc pm : Value) (an : Option Addr) (ct : Value) (osl : Array (Option Value)), fd = PySem.W.fnOf x qual (defArgs st) (defBody st) (defScope st) .none kV doc pm an (.ref c) ct ∧ K.lookup f = some ⟨oc, od, .func fd, osl⟩ ∧ PySem.W.codeIn K (.ref c) qual = true
  kp : PySem.W.keepIn K (.ref f) = true
section
variable {P : Program} {w : World} {K : PySem.W.Frag} {mg : Str → Option Value} {base : Heap}
theorem FunC.ok {x qual : Str} {st : Stmt} {f c : Addr} {fd : FuncData} {N ps : List Str} {k : Nat} {sp : Sp} (F : FunC K x qual st f fd c) (S : FnScope N ps (defScope st)) (len : ∀ vs H Q E, sp vs H Q E → vs.length = ps.length)
    (hbody : ∀ (A : Around) (outer : List Env) (s : Shared) (H : Hp) (vs : List V) (Q : VK) (E : XK), Room k (A.deeper (envOfC qual (defScope st) s.heap.objs.size f (.ref c))) → sp vs H Q E →
      ∃ t, PSs (cxOf CX0 P w K mg base N qual (defScope st) f (.ref c) A outer s H E).nox (defBody st) t ∧ t { nx := fun _ H' => Q .non H', rt := Q } (start N vs) H) : FnOk P w K mg base CX0 (k + 1) f fd ps sp := by
  obtain ⟨oc, od, kV, doc, pm, an, ct, osl, rfl, lk, hcd⟩ := F.ex
  exact fn_of lk hcd S len fun A outer s H vs Q E hr hsp => let ⟨t, h, q⟩ := hbody A outer s H vs Q E hr hsp; ⟨t, h.nox, q⟩
theorem FunC.fun {x qual : Str} {st : Stmt} {f c : Addr} {fd : FuncData} (F : FunC K x qual st f fd c) : Fun K x qual st f fd := let ⟨oc, od, kV, doc, pm, an, ct, osl, e, lk, hcd⟩ := F.ex; ⟨⟨oc, od, kV, doc, pm, an, .ref c, ct, osl, e, lk, hcd⟩, F.kp⟩
theorem tab_mk {x : Str} {f c T : Addr} {oc e : Value} {od dd : Option Addr} {osl sl : Array (Option Value)} {fd : FuncData} {vs : Array Value} (a : PySem.W.nsIn K mainGlobals x = some (some (.ref f))) (l : K.lookup f = some ⟨oc, od, .func fd, osl⟩)
    (h : K.lookup c = some ⟨e, dd, .fields vs, sl⟩) (hv : vs[11]? = some (.ref T)) (hc : fd.code = .ref c := by rfl) : PySem.W.tabIn K x = some (c, T) := by
  unfold PySem.W.tabIn
  rw [a]
  dsimp only
  rw [l]
  dsimp only
  rw [hc]
  dsimp only
  rw [h]
  dsimp only
  rw [hv]
theorem funC_mk {x qual : Str} {st : Stmt} {f c T : Addr} {oc : Value} {od an : Option Addr} {osl : Array (Option Value)} {kV doc pm cdv ct : Value} (a : PySem.W.nsIn K mainGlobals x = some (some (.ref f))) (l : K.lookup f = some ⟨oc, od, .func (PySem.W.fnOf x qual (defArgs st) (defBody st) (defScope st) .none kV doc pm an cdv ct), osl⟩)
    (cd : PySem.W.codeIn K cdv qual = true) (k : PySem.W.keepIn K (.ref f) = true) (ht : PySem.W.tabIn K x = some (c, T)) : FunC K x qual st f (PySem.W.fnOf x qual (defArgs st) (defBody st) (defScope st) .none kV doc pm an cdv ct) c := by
  have e : cdv = .ref c := by
    unfold PySem.W.tabIn at ht
    rw [a] at ht
    dsimp only at ht
    rw [l] at ht
    dsimp only [PySem.W.fnOf] at ht
    cases cdv with
    | ref c' =>
      dsimp only at ht
      split at ht
      · split at ht
        · cases ht
          rfl
        · cases ht
      · cases ht
    | _ => cases ht
  subst e
  exact ⟨⟨oc, od, kV, doc, pm, an, ct, osl, rfl, l, cd⟩, k⟩
end
end LS

set_option Elab.async false
set_option linter.all false
set_option maxRecDepth 100000
set_option maxHeartbeats 4000000
namespace LQ
open PySem PySem.Spec PyProof.Rows L2 Evl LT LG LS
/-! ### calls within the elements of a generator expression -/
section
variable {X : Cx} {σ : L2.St} {H : Hp} {P : Addr} {scope : Scope} {x : Str} {u : Value} {a b : Expr} {za zb z : V} {pos p : Pos}
theorem fc_blt {y : Str} {r : Value} {cenv : Env} {A' : Around} {E' : Value → Shared → Prop} {s : Shared} {m : Str → Option Value} {Q : Value → Shared → Prop} (F : Fc X σ H P scope x u cenv A' s m) (hk : scope.kind = .function) (hl : scope.names.lookup y = some .globalImplicit) (hm : X.mg y = none) (hv : bootBuiltins y = some r) (h : Q r s)
    (hn : y ≠ "__name__" := by decide) (hd : (y == ("__debug__" : Str)) = false := by decide) : wpAny (model X.prog X.w) A' (eval (.Name y p) cenv) Q E' s := by
  obtain ⟨mb, h1, h2⟩ := F.md.blt
  exact Calls.Name_function_global (by rw [F.sc]; exact hk) (show cenv.scope.names.lookup y = some .globalImplicit by rw [F.sc]; exact hl) (Calls.loadGlobal_builtin (by rw [F.gl]; exact F.md.glob.keeps F.base) hm (by rw [F.bi]; exact h1.keeps F.base) ((h2 y hn).trans hv) h) hd
theorem qv_blt {y : Str} {r : Value} (hk : scope.kind = .function) (hl : scope.names.lookup y = some .globalImplicit) (hm : X.mg y = none) (hv : bootBuiltins y = some r) (hz : RelV z r) (hn : y ≠ "__name__" := by decide) (hd : (y == ("__debug__" : Str)) = false := by decide) :
    QV X σ H P scope x u (.Name y p) z := fun cenv A' E' s m F => fc_blt F hk hl hm hv ⟨hz, kp_refl _⟩ hn hd
/-- a built-in function of two arguments -/
theorem qv_blt2 {y : Str} {id : String} (hk : scope.kind = .function) (hl : scope.names.lookup y = some .globalImplicit) (hm : X.mg y = none) (hv : bootBuiltins y = some (.builtin id)) (ha : QV X σ H P scope x u a za) (hb : QV X σ H P scope x u b zb) (hr : QR X σ H P scope x u (fun v w => call (.builtin id) [v, w]) za zb z)
    (he : ∀ env, starEach [a, b] env = (false, eval a env) :: starEach [b] env := by intro _; rfl) (h2 : ∀ env, starEach [b] env = [(false, eval b env)] := by intro _; rfl) (hn : y ≠ "__name__" := by decide) (hd : (y == ("__debug__" : Str)) = false := by decide) :
    QV X σ H P scope x u (.Call (.Name y p) [a, b] [] pos) z := fun cenv A' E' s m F => by
  refine wpAny_Call_Name_kw (fc_blt F hk hl hm hv ?_ hn hd)
  refine PyProof.Rows.callWith_builtin1 ?_ (he cenv) (by rw [h2 cenv]; rfl)
  rw [he cenv, h2 cenv]
  show wpAny _ _ (spliced [(false, eval a cenv), (false, eval b cenv)]) _ _ s
  refine Calls.spliced_cons (wpAny_mono (ha cenv A' E' s m F) (fun v s1 r1 => ?_) fun _ _ e => e)
  refine Calls.spliced_cons (wpAny_mono (hb cenv A' E' s1 m (F.keeps r1.2)) (fun w s2 r2 => ?_) fun _ _ e => e)
  exact Calls.spliced_nil (wpAny_mono (hr cenv A' E' s2 m v w ((F.keeps r1.2).keeps r2.2) r1.1 r2.1) (fun y s3 r3 => ⟨r3.1, kp_trans (kp_trans r1.2 r2.2) r3.2⟩) fun _ _ e => e)
/-- what isinstance asks of a value -/
theorem kit_fc {cenv : Env} {A' : Around} {s : Shared} {m : Str → Option Value} {v : Value} {t : Value} (F : Fc X σ H P scope x u cenv A' s m) (hT : Tab H P) (r : RelV z v) (ty : TyOf X.K H z t) (no : ∀ a C dx fs, H a = some (.ins C dx fs) → z ≠ .ref a) :
    ∃ Pz : Heap → Prop, PySem.W.KitX X.K v t Pz ∧ Pz s.heap ∧ v ≠ .builtin "__main__.__loader__#opaque" := by
  have rd : ∀ {a : Addr} {o : HO}, H a = some o → (∀ φ, o ≠ .ext φ) → but P H a = some o := fun {a o} e n => by
    rw [but_ne fun z => by rw [z, hT] at e; exact n _ (Option.some.inj e).symm]
    exact e
  cases ty with
  | non => cases (show v = Value.none from r); exact ⟨_, PySem.W.kitx_none, True.intro, fun z => nomatch z⟩
  | bl y => cases (show v = Value.bool y from r); exact ⟨_, PySem.W.kitx_bool, True.intro, fun z => nomatch z⟩
  | int i => obtain ⟨t, q⟩ := (show ∃ t, v = Value.int i t from r); cases q; exact ⟨_, PySem.W.kitx_int, True.intro, fun z => nomatch z⟩
  | str y => obtain ⟨t, q⟩ := (show ∃ t, v = Value.str y t from r); cases q; exact ⟨_, PySem.W.kitx_str, True.intro, fun z => nomatch z⟩
  | flt y => obtain ⟨t, q⟩ := (show ∃ t, v = Value.float y t from r); cases q; exact ⟨_, PySem.W.kitx_float, True.intro, fun z => nomatch z⟩
  | @lst a xs ea =>
    cases (show v = Value.ref a from r)
    obtain ⟨_, _, n, _, h1⟩ := (show ObjOk X.prog X.w (but P H) s.heap a (.lst xs) from F.hok a _ (rd ea (fun φ z => by cases z)))
    exact ⟨_, PySem.W.kitx_list, ⟨_, h1, rfl⟩, fun z => nomatch z⟩
  | @frz a ob xs ea =>
    cases (show v = Value.ref a from r)
    obtain ⟨_, _, _, n, _, h1⟩ := (show ObjOk X.prog X.w (but P H) s.heap a (.frz ob (.lst xs)) from F.hok a _ (rd ea (fun φ z => by cases z)))
    exact ⟨_, PySem.W.kitx_list, ⟨_, h1, rfl⟩, fun z => nomatch z⟩
  | @tup a xs ea =>
    cases (show v = Value.ref a from r)
    obtain ⟨_, _, _, o, h1, h2, _⟩ := (show ObjOk X.prog X.w (but P H) s.heap a (.tup xs) from F.hok a _ (rd ea (fun φ z => by cases z)))
    exact ⟨_, PySem.W.kitx_tuple, ⟨o, h1, h2⟩, fun z => nomatch z⟩
  | @dK a kvs ea =>
    cases (show v = Value.ref a from r)
    obtain ⟨_, _, vs, _, o, es, ep, h1, h2, _⟩ := F.hok a _ (rd ea (fun φ z => by cases z))
    exact ⟨_, PySem.W.kitx_dict, ⟨o, h1, h2.1⟩, fun z => nomatch z⟩
  | @dT a kvs ea =>
    cases (show v = Value.ref a from r)
    obtain ⟨_, _, xs, _, o, es, ep, h1, h2, _⟩ := F.hok a _ (rd ea (fun φ z => by cases z))
    exact ⟨_, PySem.W.kitx_dict, ⟨o, h1, h2.1⟩, fun z => nomatch z⟩
  | @ins a C dx fs ea cl ha hn htk hm => exact absurd rfl (no a C dx fs ea)
theorem qr_isi {T : String} {t : Value} {b : Bool} (hT : Tab H P) (ty : TyOf X.K H z t) (no : ∀ a C dx fs, H a = some (.ins C dx fs) → z ≠ .ref a) (hk : PySem.W.kitOne X.K t (.type T) = some b) : QR X σ H P scope x u (fun v w => call (.builtin "isinstance") [v, w]) z (.ty T) (.bl b) := fun cenv A' E' s m v w F r1 r2 => by
  cases (show w = Value.type T from r2)
  obtain ⟨Pz, Z, p, hx⟩ := kit_fc F hT r1 ty no
  exact PySem.W.kia_one Z F.kin p hk hx fun tk => ⟨rfl, kp_tok _ _⟩
theorem qv_is {z' : V} (h : QV X σ H P scope x u a z) (e : z = z') : QV X σ H P scope x u a z' := e ▸ h
theorem qv_not {c : Bool} (ha : QV X σ H P scope x u a (.bl c)) : QV X σ H P scope x u (.UnaryOp .Not a pos) (.bl (!c)) := fun cenv A' E' s m F => by
  refine UnaryOp_ (wpAny_mono (ha cenv A' E' s m F) (fun v s1 r1 => ?_) fun _ _ e => e)
  obtain ⟨rfl, k⟩ := r1
  exact not_of (wpAny_truthy_bool ⟨rfl, k⟩)
theorem qv_one {op : BoolOp} (ha : QV X σ H P scope x u a z) : QV X σ H P scope x u (.BoolOp op [a] pos) z := fun cenv A' E' s m F => BoolOp_one (ha cenv A' E' s m F)
theorem qv_and {rest : List Expr} {c d : Bool} (ha : QV X σ H P scope x u a (.bl c)) (hb : c = true → QV X σ H P scope x u (.BoolOp .And (b :: rest) pos) (.bl d)) : QV X σ H P scope x u (.BoolOp .And (a :: b :: rest) pos) (.bl (c && d)) := fun cenv A' E' s m F => by
  refine BoolOp_and (wpAny_mono (ha cenv A' E' s m F) (fun v s1 r1 => ?_) fun _ _ e => e)
  obtain ⟨rfl, k⟩ := r1
  refine wpAny_truthy_bool ?_
  cases c with
  | true => exact wpAny_mono (hb rfl cenv A' E' s1 m (F.keeps k)) (fun y s3 r3 => ⟨r3.1, kp_trans k r3.2⟩) fun _ _ e => e
  | false => exact ⟨rfl, k⟩
theorem qr_ge_int {i j : Int} : QR X σ H P scope x u (compareOp .GtE) (.int i) (.int j) (.bl (decide (j ≤ i))) := fun cenv A' E' s m v w F r1 r2 => by
  obtain ⟨t, rfl⟩ := r1
  obtain ⟨t', rfl⟩ := r2
  exact ge_int ⟨rfl, kp_refl _⟩
/-- an own def of one argument whose body is one return -/
theorem qv_call1 {nm pn qual : Str} {st : Stmt} {f : Addr} {fd : FuncData} {N : List Str} {e : Expr} {rp : Pos} {k : Nat} (hr : Room k X.A) (hk : scope.kind = .function) (hl : scope.names.lookup nm = some .globalImplicit) (hm : X.mg nm = some (.ref f)) (F : Fun X.K nm qual st f fd) (hbody : defBody st = [.Return (some e) rp]) (S : FnScope N [pn] (defScope st)) (hloc : (defScope st).names.lookup pn = some .local)
    (hb : Binds X.K fd [pn] []) (ha : QV X σ H P scope x u a za) (he : ∀ (A0 : Around) (v : Value), RelV za v → QV { X with A := A0 } σ H P (defScope st) pn v e z) (hs : ∀ env, starEach [a] env = (false, eval a env) :: starEach [] env := by intro _; rfl) (hd : (nm == ("__debug__" : Str)) = false := by decide) :
    QV X σ H P scope x u (.Call (.Name nm p) [a] [] pos) z := fun cenv A' E' s m Fc0 => by
  refine wpAny_Call_Name_kw (Calls.Name_function_global (by rw [Fc0.sc]; exact hk) (show cenv.scope.names.lookup nm = some .globalImplicit by rw [Fc0.sc]; exact hl) (Calls.loadGlobal_global (by rw [Fc0.gl]; exact Fc0.md.glob.keeps Fc0.base) hm ?_) hd)
  refine PySem.W.callWith_K (h₀ := X.base) Fc0.md.kin F.kp ?_ (hs cenv) (by rfl)
  rw [hs cenv]
  show wpAny _ _ (spliced ((false, eval a cenv) :: [])) _ _ s
  refine Calls.spliced_cons (wpAny_mono (ha cenv A' E' s m Fc0) (fun v s1 r1 => Calls.spliced_nil ?_) fun _ _ e => e)
  have F1 := Fc0.keeps r1.2
  refine ⟨F1.kin, ?_⟩
  obtain ⟨oc, od, kV, doc, pm, an, cdv, ct, osl, rfl, lk, hcd⟩ := F.ex
  refine wpAny_call (Att.call_fn (binds := [(pn, v)]) F1.kin (F1.md.nolimit.keeps F1.base) lk hcd (by have := hr.dp; have := Fc0.dp; omega) (hb s1 [v] F1.kin rfl) ?_ (fun s2 IC => ?_) S.co S.gen S.kind)
  · simp only [List.all_cons, List.all_nil, Bool.and_true, Bool.or_eq_true, beq_iff_eq]
    exact .inl hloc
  · obtain ⟨h2, tk2, rfl⟩ := IC.toInCall.same
    have kk : ∀ b o, s1.heap.get? b = some o → h2.get? b = some o := IC.toInCall.keep
    rw [hbody]
    have Fn : Fc { X with A := A' } σ H P (defScope st) pn v (envOfC qual (defScope st) s1.heap.objs.size f cdv) (A'.deeper (envOfC qual (defScope st) s1.heap.objs.size f cdv)) { s1 with heap := h2, toks := tk2 } _ :=
      ⟨Fc0.hd, Nat.le_refl _, by show A'.units + 3 ≤ A'.units + 8; omega, rfl, rfl, rfl, IC.toInCall.ns, by
        show bindL _ [(pn, v)] _ pn = some v
        unfold bindL
        have hkd : (envOfC qual (defScope st) s1.heap.objs.size f cdv).kindOf pn = some .local := hloc
        rw [hkd]
        simp [bindL], fun b o e => kk b o (F1.base b o e), F1.md, F1.hok.kept kk, fun i y w h1 h2 h3 h4 => absurd rfl (S.nofree (y, .free) (lookup_mem' h4))⟩
    refine wpAny_execs_cons (wpAny_Return_some (wpAny_mono (he A' v r1.1 _ _ _ _ _ Fn) (fun y s3 r3 => ⟨r3.1, kp_trans (kp_trans r1.2 ⟨h2, tk2, rfl, kk⟩) r3.2⟩) fun _ _ e => e))
end
end LQ

set_option Elab.async false
set_option linter.all false
set_option maxRecDepth 100000
set_option maxHeartbeats 4000000
namespace LX
open PySem PySem.Spec PyProof.Rows L2 Evl LT LG LS
/-! ### own exceptions without arguments -/
abbrev veTail : List Value := [.type "ValueError", .type "Exception", .type "BaseException", .type "object"]
/-- an exception class of the text: its name, what the written part says of it -/
structure Xc (K : PySem.W.Frag) (mg : Str → Option Value) (nm : Str) (C : Addr) : Prop where
  g : mg nm = some (.ref C)
  x : PySem.W.excIn K C veTail "ValueError.__new__" = true
  k : PySem.W.keepIn K (.ref C) = true
  b : PySem.W.subIn K (.ref C) (.type "BaseException") = some true
  t : PySem.W.typeIn K (.ref C) = some (.type "type")
  d : PySem.W.hasDictIn K C = true
section
variable {X : Cx} {C D : Addr} {nm : Str}
theorem pmk_own0 {p pos : Pos} (T : Xc X.K X.mg nm C) (hg : Gl X nm) (hdb : (nm == ("__debug__" : Str)) = false := by decide) : PMk X (.Call (.Name nm p) [] [] pos) (fun _ H Q => Q (.ref C) none H) := by
  intro pins s σ H Q I h
  refine wpAny_Call_Name_kw (ld_glob I hg T.g ?_ hdb)
  refine PySem.W.callWith_K0 I.kIn T.k ?_
  show wpAny _ _ (call (.ref C) []) _ _ _
  obtain ⟨_, _, _, _, _, _, _, _, _, _, _, _, _, _, _, _, _, hC, hN, hni, TT⟩ := exc_obj I.kIn T.x
  refine wpAny_call_exc_subT PySem.F.excBase_ValueError TT hC hN hni (fun h' e hm => ?_) (Nat.zero_le _)
  exact mk_of I hm (raises_own T.b T.t) h (I.hok.gone hm.new)
theorem ps_raise0 {W : WX} {p pos pos2 : Pos} (hc : X.calm = true) (T : Xc X.K X.mg nm C) (tk : Takes X W) (hg : Gl X nm) (hdb : (nm == ("__debug__" : Str)) = false := by decide) : PS X (.Raise (some (.Call (.Name nm p) [] [] pos)) none pos2) (fun _ σ H => W (.ref C) none σ H) := ps_raise hc tk (pmk_own0 T hg hdb)
/-- isinstance(e, c), e what the suite holds -/
def rIsX (K : PySem.W.Frag) (D a : Addr) (cls : Value) (d : Option Addr) : List V → Hp → VK → Prop := fun xs H Q => cls = .ref D ∧ d = none ∧ rIsE K D a xs H Q
theorem call_isX {a : Addr} {oe : Obj} {cls : Value} {d : Option Addr} {pn : List (Addr × Obj)} (C : ExcC X.K D) (hz : Zc cls d oe) (hf : ∃ vs, oe.data = .fields vs) : CallR (X.suite a ((a, oe) :: pn)) (.builtin "isinstance") (rIsX X.K D a cls d) := by
  intro pins s σ H xs us Q I r h
  obtain ⟨rfl, rfl, h⟩ := h
  exact call_isE C hz hf pins s σ H xs us Q I r h
end
section
variable {K : PySem.W.Frag} {mg : Str → Option Value} {C D : Addr} {nm : Str} {b : Bool}
theorem Xc.exm (T : Xc K mg nm C) {cls : Value} (h : PySem.W.subIn K cls (.ref C) = some b) : PySem.W.exmOne K cls (.ref C) = some b := PySem.W.exm_ref T.b T.d T.t h
theorem Xc.kit (T : Xc K mg nm C) {cls : Value} (h : PySem.W.subIn K cls (.ref C) = some b) (hn : cls = .ref C → b = true) : PySem.W.kitOne K cls (.ref C) = some b := by
  have e := T.exm h
  unfold PySem.W.exmOne at e
  rw [T.b] at e
  unfold PySem.W.kitOne
  by_cases q : cls = .ref C
  · rw [hn q, q]
    simp
  · rw [if_neg (by simpa using q)]
    simpa using e
end
/-- a try whose suite returns: what the body's calls that return do, what the suite does -/
theorem ev_isX {K : PySem.W.Frag} {D a C : Addr} {σ : L2.St} {H : Hp} {ta tb : TE} {b : Bool} (h : Ev ta σ H (.ref a)) (hn : Ev tb σ H (.ref C)) (hk : PySem.W.kitOne K (.ref D) (.ref C) = some b) : Ev (tCB (rIsX K D a (.ref D) none) (tCons ta (tCons tb tNil))) σ H (.bl b) :=
  ev_cb (ea_cons h (ea_cons hn ea_nil)) fun H1 e Q q => ⟨rfl, rfl, .ref C, .ref C, b, rfl, fun u hu => hu, hk, q H1 (Ex.refl H1)⟩
theorem pass_own {X : Cx} {E : XK} (tk : Takes X (fun cls d _ H => E cls d H)) : Passes (L2.CX X.prog X.w) X E := passes_call tk fun _ _ _ _ h => h
end LX

set_option Elab.async false
set_option linter.all false
set_option maxRecDepth 100000
set_option maxHeartbeats 4000000
namespace HE
open PySem PySem.Spec PyProof.Rows L2 Evl LT
/-! ### the head by facts: defs, their code objects, the walk's end -/
theorem fun_of {K : PySem.W.Frag} {x qual : Str} {st : Stmt} {f : Addr} {fd : FuncData} (F : FunD K x qual (defArgs st) (defBody st) (defScope st) [] [] f fd) : Fun K x qual st f fd := by
  obtain ⟨oc, od, dV, kV, doc, pm, an, cdv, ct, osl, rfl, lk, hcd, hd, _⟩ := F.ex
  have e : dV = .none := by
    rcases hd with ⟨_, h⟩ | ⟨h, _⟩
    · exact h
    · exact absurd rfl h
  subst e
  exact ⟨⟨oc, od, kV, doc, pm, an, cdv, ct, osl, rfl, lk, hcd⟩, F.kp⟩
theorem funC_of {K : PySem.W.Frag} {x qual : Str} {st : Stmt} {p : He.Defn} {fd : FuncData} (F : Fun K x qual st (He.fAd K p) fd) : LS.FunC K x qual st (He.fAd K p) fd (He.codeOf K p) := by
  obtain ⟨oc, od, kV, doc, pm, an, cdv, ct, osl, rfl, lk, hcd⟩ := F.ex
  obtain ⟨c, rfl⟩ := He.codeIn_ref hcd
  have e : He.codeOf K p = c := He.codeOf_eq lk rfl
  rw [e]
  exact ⟨⟨oc, od, kV, doc, pm, an, ct, osl, rfl, lk, hcd⟩, F.kp⟩
/-- what the Bool ex tells of the classes -/
def eqS (a b : Option (Option Value)) : Bool := decide (a = b)
theorem eqS_ok {a b : Option (Option Value)} (h : eqS a b = true) : a = b := of_decide_eq_true h
def dictC (K : PySem.W.Frag) (x : Str) : Bool := PySem.W.hasDictIn K (He.ga K x)
def subC (K : PySem.W.Frag) (x y : Str) (b : Bool) : Bool := decide (PySem.W.subIn K (.ref (He.ga K x)) (.ref (He.ga K y)) = some b)
theorem subC_ok {K : PySem.W.Frag} {x y : Str} {b : Bool} (h : subC K x y b = true) : PySem.W.subIn K (.ref (He.ga K x)) (.ref (He.ga K y)) = some b := of_decide_eq_true h
def excC (K : PySem.W.Frag) (x : Str) : Bool := eqS (PySem.W.findIn K (.ref (He.ga K x)) "__getattribute__") (some (some (.builtin "BaseException.__getattribute__"))) && (eqS (PySem.W.findIn K (.ref (He.ga K x)) "__getattr__") (some none) &&
  (decide (PySem.W.subIn K (.ref (He.ga K x)) (.type "BaseException") = some true) && (PySem.W.hasDictIn K (He.ga K x) && (eqS (PySem.W.findIn K (.ref (He.ga K x)) "__class__") (some (some (.builtin "object.__class__"))) &&
  (eqS (PySem.W.specialIn K (.builtin "object.__class__") "__get__") (some (some (.builtin "getset_descriptor.__get__"))) && (decide (PySem.W.takesIn K (.builtin "object.__class__") = some true) && decide (PySem.W.mroIn K (He.ga K x) (.type "object") = some true)))))))
theorem excC_ok {K : PySem.W.Frag} {x : Str} (h : excC K x = true) : ExcC K (He.ga K x) := by
  obtain ⟨h1, h⟩ := He.ba h
  obtain ⟨h2, h⟩ := He.ba h
  obtain ⟨h3, h⟩ := He.ba h
  obtain ⟨h4, h⟩ := He.ba h
  obtain ⟨h5, h⟩ := He.ba h
  obtain ⟨h6, h⟩ := He.ba h
  obtain ⟨h7, h8⟩ := He.ba h
  exact ⟨eqS_ok h1, eqS_ok h2, of_decide_eq_true h3, h4, eqS_ok h5, eqS_ok h6, of_decide_eq_true h7, of_decide_eq_true h8⟩
theorem xc_of {K : PySem.W.Frag} {h : Heap} {mg : Str → Option Value} {x : Str} (X : K.In h) (G : h.Ns mainGlobals mg) (g : (He.Fa.glo x).ok K = true) (c : (He.Fa.exc x).ok K = true) (d : dictC K x = true) : LX.Xc K mg x (He.ga K x) := by
  obtain ⟨h1, h2, h3, h4⟩ := He.exc_ok c
  exact ⟨He.glo_ok X G g, h1, h2, h3, h4, d⟩
theorem binds1 {K : PySem.W.Frag} {x qual y : Str} {st : Stmt} {f : Addr} {fd : FuncData} (F : Fun K x qual st f fd) (h : ∀ (kV doc pm : Value) (an : Option Addr) (cdv ct : Value) (u : Value), bindArgs (PySem.W.fnOf x qual (defArgs st) (defBody st) (defScope st) .none kV doc pm an cdv ct) ⟨[u], []⟩ = pure [(y, u)]) (s : Shared) (u : Value) : BindsTo s fd ⟨[u], []⟩ [(y, u)] := by
  obtain ⟨oc, od, kV, doc, pm, an, cdv, ct, osl, rfl, lk, hcd⟩ := F.ex
  exact .of_eq (h kV doc pm an cdv ct u)
/-- the walk, tables of any defs (methods too) -/
theorem walk_facts {l : PySem.W.OpenLaw} {n k : Nat} {q : Program} {loose : List Str} {XP : (Str → Option Value) → Heap → Prop} {YP : World → Heap → Prop} {d : DefRec} {x : Str}
    (hn : l.most = some n) (hn2 : n ≤ sizeLine) (hdf : d.params.defaults = []) (hr : Room k callerA)
    (F : ∀ (w : World) (mg : Str → Option Value) (fa : Addr) (h : Heap), YP w h → h.Ns mainGlobals mg → mg d.name = some (.ref fa) →
      ∃ (K : PySem.W.Frag) (fd : FuncData) (cs : List (Addr × Addr)) (sp : Sp), K.In h ∧ (∀ p ∈ cs, h.get? p.2 = some { cls := .none, data := .fields #[] } ∧ K.lookup p.2 = none ∧ PySem.W.CodeHd h p.1 p.2) ∧ (∀ (s : Shared) (u : Value), BindsTo s fd ⟨[u], []⟩ [(x, u)]) ∧
        (∀ (H : Hp) (a : Addr) (ns : List Int), ns.length ≤ n → (∀ p ∈ cs, Tab H p.2) → SqL K H a (ns.map V.int) → ∀ Q : VK, (∀ H', (∀ p ∈ cs, Tab H' p.2) → Q (.bl true) H') → sp [.ref a] H Q fun _ _ _ => False) ∧
        ∀ base : Heap, K.In base → base.Ns mainGlobals mg → (∀ p ∈ cs, LamX.TabB base mg p.1 p.2) → FnOk l.prog w K mg base CX0 k fa fd [x] sp) :
    PySem.W.WalkO q loose XP YP l.row.toRowW d [] (fun f vs => PySem.call f vs) := by
  refine LamX.walk_ofTsE (x := x) (CX := fun _ => CX0) hn hn2 hdf hr (fun w mg fa h Y G hmg => ?_) (fun _ _ _ _ _ z => z)
  obtain ⟨K, fd, cs, sp, KX, hcs, hb, hsp, hF⟩ := F w mg fa h Y G hmg
  refine ⟨K, KX, fd, cs, spExt (cs.map fun p => p.2) sp, fun p hp => (hcs p hp).1, fun p hp => (hcs p hp).2.1, fun p hp => (hcs p hp).2.2, hb, fun H a ns hlen _ hH hS => ⟨fun b hb => ?_, ?_⟩, fun base h1 h2 h3 => ok_ext (hF base h1 h2 h3)⟩
  · obtain ⟨p, hp, rfl⟩ := List.mem_map.mp hb
    exact hH p hp
  · have hnt : ∀ p ∈ cs, extH (cs.map fun p => p.2) H p.2 = some (.ext (TabPhi p.2)) := fun p hp => extH_in (List.mem_map.mpr ⟨p, hp, rfl⟩)
    refine hsp _ a ns hlen hnt ?_ _ fun H' e => ⟨fun b hb => ?_, fun _ => rfl⟩
    · have out : ∀ {u : HO}, H a = some u → (∀ ts, u ≠ .tbl ts) → extH (cs.map fun p => p.2) H a = some u := fun {u} h1 h2 => by
        rw [extH_out fun hb => ?_]
        · exact h1
        · obtain ⟨p, hp, e⟩ := List.mem_map.mp hb
          have := hH p hp
          have e : p.2 = a := e
          rw [e, h1] at this
          cases this
          exact h2 _ rfl
      rcases hS with (h1 | ⟨o, h1⟩) | h1
      · exact .inl (.inl (out h1 fun _ z => by cases z))
      · exact .inl (.inr ⟨o, out h1 fun _ z => by cases z⟩)
      · exact .inr h1
    · obtain ⟨p, hp, rfl⟩ := List.mem_map.mp hb
      exact e p hp
end HE

set_option Elab.async false
set_option linter.all false
set_option maxRecDepth 100000
set_option maxHeartbeats 4000000
namespace HF
open PySem PySem.Spec PyProof.Rows L2
/-! ### the head by facts, looked at in parts: a small part of the heap, some runs of the top -/
def namesOf (g : Addr → Option Obj) (a : Addr) : List Addr := match g a with
  | some ⟨_, _, .dict es _, _⟩ => es.toList.filterMap fun e => match e.val with
    | .ref b => some b
    | _ => none
  | _ => []
def codeAt (g : Addr → Option Obj) (f : Addr) : List Addr := match g f with
  | some ⟨_, _, .func fd, _⟩ => He.refV fd.code
  | _ => []
def partsOf (g : Addr → Option Obj) (a : Addr) : List Addr := match g a with
  | some ⟨_, _, .func fd, _⟩ => He.refV fd.code
  | some ⟨_, _, .cls cd, _⟩ => cd.ns :: (namesOf g cd.ns).flatMap fun f => f :: codeAt g f
  | _ => []
/-- what the facts of a top ask for: its names, their code, the classes' own names and their code -/
def needs (g : Addr → Option Obj) : List Addr := mainGlobals :: (namesOf g mainGlobals ++ (namesOf g mainGlobals).flatMap (partsOf g))
abbrev Kg (g : Addr → Option Obj) : PySem.W.Frag := He.frT g (needs g)
def seen (fa : List He.Fa) (fn : List He.DefD) (tf : List He.Defn) (ex : PySem.W.Frag → Bool) (g : Addr → Option Obj) : Bool × List He.FnW :=
  ((fa.all fun f => f.ok (Kg g)) && ((fn.all fun d => d.ok (Kg g)) && (ex (Kg g) && He.tabsB g tf (Kg g))), fn.map fun d => He.fnW (Kg g) d.at_)
theorem seen_of {fa : List He.Fa} {fn : List He.DefD} {tf : List He.Defn} {ex : PySem.W.Frag → Bool} {g : Addr → Option Obj} (h1 : (fa.all fun f => f.ok (Kg g)) = true) (h2 : (fn.all fun d => d.ok (Kg g)) = true) (h3 : (fn.map fun d => He.fnW (Kg g) d.at_) = fn.map He.DefD.val) (h4 : (ex (Kg g) && He.tabsB g tf (Kg g)) = true) : seen fa fn tf ex g = (true, fn.map He.DefD.val) := by
  unfold seen
  rw [h1, h2, h3, h4]
  rfl
theorem says_of {fa : List He.Fa} {fn : List He.DefD} {tf : List He.Defn} {ex : PySem.W.Frag → Bool} {w : World} {h : Heap} (e : seen fa fn tf ex h.get? = (true, fn.map He.DefD.val)) : He.SaysX fa fn [] tf ex w h (Kg h.get?) := by
  have z1 := congrArg (fun z : Bool × List He.FnW => z.1) e
  have z2 := congrArg (fun z : Bool × List He.FnW => z.2) e
  obtain ⟨y1, z3⟩ := He.ba z1
  obtain ⟨y2, z4⟩ := He.ba z3
  obtain ⟨y3, y4⟩ := He.ba z4
  have tb : ∀ p ∈ tf, PySem.W.codeHdIn (Kg h.get?) (He.cT (Kg h.get?) p).1 (He.cT (Kg h.get?) p).2 = true ∧ ∃ o, h.get? (He.cT (Kg h.get?) p).2 = some o ∧ He.emptyTab o = true := fun p hp => by
    obtain ⟨a1, a2⟩ := He.ba (List.all_eq_true.mp y4 p hp)
    refine ⟨a1, ?_⟩
    revert a2
    cases h.get? (He.cT (Kg h.get?) p).2 with
    | none => exact fun z => nomatch z
    | some o => exact fun z => ⟨o, rfl, z⟩
  constructor
  · show ((_, _), _) = ((_, _), _)
    rw [show ((fa.all fun f => f.ok (Kg h.get?)) && fn.all fun d => d.ok (Kg h.get?)) = true by rw [y1, y2]; rfl]
    exact congrArg (fun z => ((true, z), [])) z2
  · exact y3
  · exact fun p hp => (tb p hp).1
  · intro p hp
    obtain ⟨_, o, a, b⟩ := tb p hp
    exact He.frT_none a b
  · intro p hp
    obtain ⟨_, o, a, b⟩ := tb p hp
    rw [a, He.emptyTab_eq b]
def hookY (fa : List He.Fa) (fn : List He.DefD) (tf : List He.Defn) (ex : PySem.W.Frag → Bool) : PySem.W.Hook where
  α := Bool × List He.FnW
  obs := fun s => seen fa fn tf ex s.heap.get?
  val := fun _ => (true, fn.map He.DefD.val)
  says := fun w h => ∃ K : PySem.W.Frag, K.In h ∧ He.SaysX fa fn [] tf ex w h K
  of := fun _ _ e => ⟨_, He.frT_in, says_of e⟩
  keeps := fun w h h' y k => by
    obtain ⟨K, i, c⟩ := y
    exact ⟨K, i.keeps k, { c with empty := fun p hp => k _ _ (c.empty p hp) }⟩
theorem look_eq {fa : List He.Fa} {fn : List He.DefD} {tf : List He.Defn} {ex : PySem.W.Frag → Bool} (s : PySem.W.SharedT) : seen fa fn tf ex (HandSHeadRun.getT s) = (hookY fa fn tf ex).obs s.abs := by
  have e : HandSHeadRun.getT s = s.abs.heap.get? := funext fun a => HandSHeadRun.getT_eq s a
  rw [e]
  rfl
theorem at_ {α : Type} {o : Option PySem.W.SharedT} {p : PySem.W.SharedT → α} {v : α} (h : o.map p = some v) {s : PySem.W.SharedT} (e : o = some s) : p s = v := by
  rw [e] at h
  exact Option.some.inj h
theorem run_of {α β γ : Type} {o : Option PySem.W.SharedT} {l : PySem.W.SharedT → α} {n : PySem.W.SharedT → β} {ob : PySem.W.SharedT → γ} {x : α} {y : β} {v : γ} (h0 : o.map (fun s => (l s, n s)) = some (x, y)) (h1 : ∀ s, o = some s → ob s = v) : o.map (fun s => (l s, n s, ob s)) = some (x, y, v) := by
  cases o with
  | none => cases h0
  | some s =>
    have e := Option.some.inj h0
    have e1 : l s = x := congrArg (fun z : α × β => z.1) e
    have e2 : n s = y := congrArg (fun z : α × β => z.2) e
    show some (l s, n s, ob s) = _
    rw [e1, e2, h1 s rfl]
theorem all_app {α : Type} {p : α → Bool} {a b : List α} (h1 : a.all p = true) (h2 : b.all p = true) : (a ++ b).all p = true := by
  rw [List.all_append, h1, h2]
  rfl
theorem map_app {α β : Type} {p q : α → β} {a b : List α} (h1 : a.map p = a.map q) (h2 : b.map p = b.map q) : (a ++ b).map p = (a ++ b).map q := by
  rw [List.map_append, List.map_append, h1, h2]
end HF

set_option Elab.async false
set_option linter.all false
set_option maxRecDepth 100000
set_option maxHeartbeats 4000000
namespace NH
open PySem PySem.Spec PyProof.Rows L2 Evl LT LG LS LQ LX
abbrev htop (i : Nat) : Stmt := PySem.Challenge.pw_laminae_k59_commit_steps.main.body.getD i (.Pass ⟨0, 0, 0, 0⟩)
abbrev h1 : Stmt := htop 7
abbrev h2 : Stmt := htop 8
abbrev h3 : Stmt := htop 15
abbrev h4 : Stmt := inClass (htop 16) 0
abbrev h5 : Stmt := inClass (htop 16) 1
abbrev h6 : Stmt := inClass (htop 16) 9
abbrev h7 : Stmt := inClass (htop 16) 10
abbrev h8 : Stmt := inClass (htop 36) 0
abbrev h9 : Stmt := inClass (htop 36) 1
abbrev h10 : Stmt := inClass (htop 36) 2
abbrev h11 : Stmt := inClass (htop 36) 3
abbrev h12 : Stmt := inClass (htop 36) 4
abbrev h13 : Stmt := inClass (htop 36) 5
abbrev h14 : Stmt := inClass (htop 36) 7
abbrev h15 : Stmt := inClass (htop 36) 8
abbrev h16 : Stmt := inClass (htop 36) 9
abbrev h17 : Stmt := inClass (htop 36) 14
abbrev h18 : Stmt := inClass (htop 36) 15
abbrev h19 : Stmt := inClass (htop 36) 16
abbrev h20 : Stmt := htop 17
abbrev h21 : Stmt := inClass (htop 24) 0
abbrev h22 : Stmt := inClass (htop 38) 0
abbrev h23 : Stmt := inClass (htop 38) 2
abbrev h24 : Stmt := inClass (htop 38) 4
abbrev h25 : Stmt := inClass (htop 38) 5
abbrev h26 : Stmt := inClass (htop 38) 6
abbrev h27 : Stmt := inClass (htop 38) 7
abbrev h28 : Stmt := inClass (htop 38) 8
abbrev h29 : Stmt := inClass (htop 38) 9
abbrev h30 : Stmt := inClass (htop 38) 10
abbrev h31 : Stmt := inClass (htop 38) 11
abbrev h32 : Stmt := inClass (htop 38) 12
abbrev h33 : Stmt := inClass (htop 38) 13
abbrev h34 : Stmt := inClass (htop 38) 14
abbrev h35 : Stmt := inClass (htop 16) 2
abbrev h36 : Stmt := inClass (htop 16) 3
abbrev h37 : Stmt := inClass (htop 16) 4
abbrev h38 : Stmt := inClass (htop 16) 8
abbrev h39 : Stmt := inClass (htop 16) 11
abbrev h40 : Stmt := inClass (htop 36) 11
abbrev h41 : Stmt := inClass (htop 36) 6
abbrev h42 : Stmt := inClass (htop 38) 15
abbrev h43 : Stmt := inClass (htop 38) 1
abbrev h44 : Stmt := inClass (htop 38) 3
abbrev h45 : Stmt := htop 25
abbrev h46 : Stmt := htop 26
abbrev h47 : Stmt := inClass (htop 24) 1
abbrev h48 : Stmt := htop 30
abbrev h49 : Stmt := htop 31
abbrev h50 : Stmt := htop 32
abbrev h51 : Stmt := htop 33
abbrev h52 : Stmt := htop 40
abbrev h53 : Stmt := htop 41
abbrev h54 : Stmt := htop 42
abbrev h55 : Stmt := htop 43
abbrev h56 : Stmt := htop 44
abbrev h57 : Stmt := htop 45
abbrev h58 : Stmt := htop 46
abbrev h59 : Stmt := htop 47
abbrev h60 : Stmt := htop 48
abbrev h61 : Stmt := htop 49
abbrev h62 : Stmt := htop 50
def d1 : He.DefD := ⟨("is_word", none), "is_word", "is_word", defArgs h1, defBody h1, defScope h1, [], []⟩
def d2 : He.DefD := ⟨("are_words", none), "are_words", "are_words", defArgs h2, defBody h2, defScope h2, [], []⟩
def d3 : He.DefD := ⟨("is_size", none), "is_size", "is_size", defArgs h3, defBody h3, defScope h3, [], []⟩
def d4 : He.DefD := ⟨("Disk", some "__init__"), "__init__", "Disk.__init__", defArgs h4, defBody h4, defScope h4, [], []⟩
def d5 : He.DefD := ⟨("Disk", some "read"), "read", "Disk.read", defArgs h5, defBody h5, defScope h5, [], []⟩
def d6 : He.DefD := ⟨("Disk", some "_is_sector"), "_is_sector", "Disk._is_sector", defArgs h6, defBody h6, defScope h6, [], []⟩
def d7 : He.DefD := ⟨("Disk", some "_begin_operation"), "_begin_operation", "Disk._begin_operation", defArgs h7, defBody h7, defScope h7, [], []⟩
def d8 : He.DefD := ⟨("Space", some "__init__"), "__init__", "Space.__init__", defArgs h8, defBody h8, defScope h8, [], []⟩
def d9 : He.DefD := ⟨("Space", some "take"), "take", "Space.take", defArgs h9, defBody h9, defScope h9, [], []⟩
def d10 : He.DefD := ⟨("Space", some "least_free"), "least_free", "Space.least_free", defArgs h10, defBody h10, defScope h10, [], []⟩
def d11 : He.DefD := ⟨("Space", some "share"), "share", "Space.share", defArgs h11, defBody h11, defScope h11, [], []⟩
def d12 : He.DefD := ⟨("Space", some "drop"), "drop", "Space.drop", defArgs h12, defBody h12, defScope h12, [], []⟩
def d13 : He.DefD := ⟨("Space", some "uses"), "uses", "Space.uses", defArgs h13, defBody h13, defScope h13, [], []⟩
def d14 : He.DefD := ⟨("Space", some "is_new"), "is_new", "Space.is_new", defArgs h14, defBody h14, defScope h14, [], []⟩
def d15 : He.DefD := ⟨("Space", some "is_free"), "is_free", "Space.is_free", defArgs h15, defBody h15, defScope h15, [], []⟩
def d16 : He.DefD := ⟨("Space", some "free"), "free", "Space.free", defArgs h16, defBody h16, defScope h16, [], []⟩
def d17 : He.DefD := ⟨("Space", some "_count_unused"), "_count_unused", "Space._count_unused", defArgs h17, defBody h17, defScope h17, [], []⟩
def d18 : He.DefD := ⟨("Space", some "_check_exists"), "_check_exists", "Space._check_exists", defArgs h18, defBody h18, defScope h18, [], []⟩
def d19 : He.DefD := ⟨("Space", some "_check_used"), "_check_used", "Space._check_used", defArgs h19, defBody h19, defScope h19, [], []⟩
def d20 : He.DefD := ⟨("read_block", none), "read_block", "read_block", defArgs h20, defBody h20, defScope h20, [], []⟩
def d21 : He.DefD := ⟨("Head", some "__init__"), "__init__", "Head.__init__", defArgs h21, defBody h21, defScope h21, [], []⟩
def d22 : He.DefD := ⟨("Store", some "__init__"), "__init__", "Store.__init__", defArgs h22, defBody h22, defScope h22, [], []⟩
def d23 : He.DefD := ⟨("Store", some "use_reserve"), "use_reserve", "Store.use_reserve", defArgs h23, defBody h23, defScope h23, [], []⟩
def d24 : He.DefD := ⟨("Store", some "generation"), "generation", "Store.generation", defArgs h24, defBody h24, defScope h24, [], []⟩
def d25 : He.DefD := ⟨("Store", some "read"), "read", "Store.read", defArgs h25, defBody h25, defScope h25, [], []⟩
def d26 : He.DefD := ⟨("Store", some "next_pointer"), "next_pointer", "Store.next_pointer", defArgs h26, defBody h26, defScope h26, [], []⟩
def d27 : He.DefD := ⟨("Store", some "make"), "make", "Store.make", defArgs h27, defBody h27, defScope h27, [], []⟩
def d28 : He.DefD := ⟨("Store", some "is_new"), "is_new", "Store.is_new", defArgs h28, defBody h28, defScope h28, [], []⟩
def d29 : He.DefD := ⟨("Store", some "write"), "write", "Store.write", defArgs h29, defBody h29, defScope h29, [], []⟩
def d30 : He.DefD := ⟨("Store", some "share"), "share", "Store.share", defArgs h30, defBody h30, defScope h30, [], []⟩
def d31 : He.DefD := ⟨("Store", some "drop"), "drop", "Store.drop", defArgs h31, defBody h31, defScope h31, [], []⟩
def d32 : He.DefD := ⟨("Store", some "uses"), "uses", "Store.uses", defArgs h32, defBody h32, defScope h32, [], []⟩
def d33 : He.DefD := ⟨("Store", some "require"), "require", "Store.require", defArgs h33, defBody h33, defScope h33, [], []⟩
def d34 : He.DefD := ⟨("Store", some "free"), "free", "Store.free", defArgs h34, defBody h34, defScope h34, [], []⟩
def d35 : He.DefD := ⟨("Disk", some "write"), "write", "Disk.write", defArgs h35, defBody h35, defScope h35, [], []⟩
def d36 : He.DefD := ⟨("Disk", some "flush"), "flush", "Disk.flush", defArgs h36, defBody h36, defScope h36, [], []⟩
def d37 : He.DefD := ⟨("Disk", some "waiting"), "waiting", "Disk.waiting", defArgs h37, defBody h37, defScope h37, [], []⟩
def d38 : He.DefD := ⟨("Disk", some "lasting"), "lasting", "Disk.lasting", defArgs h38, defBody h38, defScope h38, [], []⟩
def d39 : He.DefD := ⟨("Disk", some "_settle_writes"), "_settle_writes", "Disk._settle_writes", defArgs h39, defBody h39, defScope h39, [], []⟩
def d40 : He.DefD := ⟨("Space", some "settle"), "settle", "Space.settle", defArgs h40, defBody h40, defScope h40, [], []⟩
def d41 : He.DefD := ⟨("Space", some "is_held"), "is_held", "Space.is_held", defArgs h41, defBody h41, defScope h41, [], []⟩
def d42 : He.DefD := ⟨("Store", some "new_blocks"), "new_blocks", "Store.new_blocks", defArgs h42, defBody h42, defScope h42, [], []⟩
def d43 : He.DefD := ⟨("Store", some "use_table"), "use_table", "Store.use_table", defArgs h43, defBody h43, defScope h43, [], []⟩
def d44 : He.DefD := ⟨("Store", some "use_head"), "use_head", "Store.use_head", defArgs h44, defBody h44, defScope h44, [], []⟩
def d45 : He.DefD := ⟨("place", none), "place", "place", defArgs h45, defBody h45, defScope h45, [], []⟩
def d46 : He.DefD := ⟨("log_mark", none), "log_mark", "log_mark", defArgs h46, defBody h46, defScope h46, [], []⟩
def d47 : He.DefD := ⟨("Head", some "sector"), "sector", "Head.sector", defArgs h47, defBody h47, defScope h47, [], []⟩
def d48 : He.DefD := ⟨("next_head", none), "next_head", "next_head", defArgs h48, defBody h48, defScope h48, [], []⟩
def d49 : He.DefD := ⟨("block_steps", none), "block_steps", "block_steps", defArgs h49, defBody h49, defScope h49, [], []⟩
def d50 : He.DefD := ⟨("commit_steps", none), "commit_steps", "commit_steps", defArgs h50, defBody h50, defScope h50, [], []⟩
def d51 : He.DefD := ⟨("commit", none), "commit", "commit", defArgs h51, defBody h51, defScope h51, [], []⟩
def d52 : He.DefD := ⟨("_law_tape", none), "_law_tape", "_law_tape", defArgs h52, defBody h52, defScope h52, [], []⟩
def d53 : He.DefD := ⟨("_law_at", none), "_law_at", "_law_at", defArgs h53, defBody h53, defScope h53, [], []⟩
def d54 : He.DefD := ⟨("_law_block", none), "_law_block", "_law_block", defArgs h54, defBody h54, defScope h54, [], []⟩
def d55 : He.DefD := ⟨("_law_is_block", none), "_law_is_block", "_law_is_block", defArgs h55, defBody h55, defScope h55, [], []⟩
def d56 : He.DefD := ⟨("_law_put_block", none), "_law_put_block", "_law_put_block", defArgs h56, defBody h56, defScope h56, [], []⟩
def d57 : He.DefD := ⟨("_law_store", none), "_law_store", "_law_store", defArgs h57, defBody h57, defScope h57, [], []⟩
def d58 : He.DefD := ⟨("_law_work", none), "_law_work", "_law_work", defArgs h58, defBody h58, defScope h58, [], []⟩
def d59 : He.DefD := ⟨("_law_due", none), "_law_due", "_law_due", defArgs h59, defBody h59, defScope h59, [], []⟩
def d60 : He.DefD := ⟨("_law_after", none), "_law_after", "_law_after", defArgs h60, defBody h60, defScope h60, [], []⟩
def d61 : He.DefD := ⟨("_law_settled", none), "_law_settled", "_law_settled", defArgs h61, defBody h61, defScope h61, [], []⟩
def d62 : He.DefD := ⟨("law", none), "law", "law", defArgs h62, defBody h62, defScope h62, [], []⟩
def fn0 : List He.DefD := [d1, d2, d3, d4, d5, d6, d7, d8, d9, d10, d11, d12, d13, d14, d15, d16, d17, d18, d19, d20, d21, d22, d23, d24, d25, d26, d27, d28, d29, d30, d31, d32, d33, d34, d35, d36, d37, d38, d39, d40, d41, d42, d43, d44, d45, d46, d47, d48, d49, d50, d51, d52, d53, d54, d55, d56, d57, d58, d59, d60, d61, d62]
def fnL : List He.DefD := fn0
def fa0 : List He.Fa := [.glo "is_word", .glo "are_words", .glo "is_size", .meth "Disk" "read", .meth "Disk" "_is_sector", .meth "Disk" "_begin_operation", .meth "Space" "take", .meth "Space" "least_free", .meth "Space" "share", .meth "Space" "drop", .meth "Space" "uses", .meth "Space" "is_new", .meth "Space" "is_free", .meth "Space" "free", .meth "Space" "_count_unused", .meth "Space" "_check_exists", .meth "Space" "_check_used", .glo "read_block", .meth "Store" "use_reserve", .meth "Store" "generation", .meth "Store" "read", .meth "Store" "next_pointer", .meth "Store" "make", .meth "Store" "is_new", .meth "Store" "write", .meth "Store" "share", .meth "Store" "drop", .meth "Store" "uses", .meth "Store" "require", .meth "Store" "free", .meth "Disk" "write", .meth "Disk" "flush", .meth "Disk" "waiting", .meth "Disk" "lasting", .meth "Disk" "_settle_writes", .meth "Space" "settle", .meth "Space" "is_held", .meth "Store" "new_blocks", .meth "Store" "use_table", .meth "Store" "use_head", .glo "place", .glo "log_mark", .meth "Head" "sector", .glo "next_head", .glo "block_steps", .glo "commit_steps", .glo "commit", .glo "_law_tape", .glo "_law_at", .glo "_law_block", .glo "_law_is_block", .glo "_law_put_block", .glo "_law_store", .glo "_law_work", .glo "_law_due", .glo "_law_after", .glo "_law_settled", .glo "law", .free "len", .free "range", .free "list", .free "tuple", .free "sorted", .free "isinstance", .free "abs", .free "int", .free "bool", .free "min", .free "max", .free "zip", .free "all", .free "dict", .int "BLOCK_WORDS" 32, .int "BLOCK_SECTORS" 4, .int "FIRST_BLOCK" 5, .int "ADD" 60, .int "MIN_BLOCKS" 96, .int "MAX_BLOCKS" 256, .int "SECTOR_WORDS" 8, .int "LOG_BLOCKS" 4, .int "FIRST_SECTOR" 4, .int "LAST_WORD" 7, .int "LOG_SECTORS" 16, .str "WRITE" "write", .str "FLUSH" "flush", .glo "Disk", .cls "Disk", .keep "Disk", .noat "Disk" "blocks", .noat "Disk" "_kept", .noat "Disk" "_shown", .noat "Disk" "_writes", .noat "Disk" "_powered", .noat "Disk" "_before_failure", .mkr "Disk", .glo "Space", .cls "Space", .keep "Space", .noat "Space" "blocks", .noat "Space" "_counts", .noat "Space" "_held", .mkr "Space", .glo "Head", .cls "Head", .keep "Head", .noat "Head" "generation", .noat "Head" "table", .noat "Head" "blocks", .mkr "Head", .glo "Store", .cls "Store", .keep "Store", .noat "Store" "disk", .noat "Store" "head", .noat "Store" "space", .noat "Store" "table", .noat "Store" "reserve", .noat "Store" "_memory", .mkr "Store", .glo "NotValid", .exc "NotValid", .glo "NoSpace", .exc "NoSpace", .glo "PowerOff", .exc "PowerOff"]
def faL : List He.Fa := fa0
def tfL : List He.Defn := [("are_words", none), ("log_mark", none)]
def exL (K : PySem.W.Frag) : Bool := (HE.dictC K "NotValid" && (HE.dictC K "NoSpace" && (HE.dictC K "PowerOff" && true)))
abbrev R : PySem.W.OpenRow := PySem.W.OpenLaw.row PySem.Challenge.rw_laminae_k59_commit_steps
abbrev hk : PySem.W.Hook := HF.hookY faL fnL tfL exL
def ob (s : PySem.W.SharedT) : Bool × List He.FnW := HF.seen faL fnL tfL exL (HandSHeadRun.getT s)
theorem ob_eq (s : PySem.W.SharedT) : ob s = hk.obs s.abs := HF.look_eq s
def looseL : List PySem.Str := (["_wall", "LaminaError", "NotValid", "PowerOff", "NoSpace", "is_word", "are_words", "MIN_BLOCKS", "MAX_BLOCKS", "SECTOR_WORDS", "BLOCK_WORDS", "BLOCK_SECTORS", "is_size", "Disk", "read_block", "LOG_BLOCKS", "FIRST_BLOCK", "FIRST_SECTOR", "LOG_SECTORS", "LAST_WORD", "Head", "place", "log_mark", "WRITE", "FLUSH", "next_head", "block_steps", "commit_steps", "commit", "ADD"] : List PySem.Str) ++ (["Space", "Store", "_law_tape", "_law_at", "_law_block", "_law_is_block", "_law_put_block", "_law_store", "_law_work", "_law_due", "_law_after", "_law_settled"] : List PySem.Str)
noncomputable abbrev en (w : World) (os : OsState) : Option PySem.W.SharedT := HandSHeadRun.endF (HandSHeadRun.stepQ (HandSHeadRun.denQ HandSHeadRun.tabQ) R.prog w) 7000 R.prog w os
abbrev Ks (s : PySem.W.SharedT) : PySem.W.Frag := HF.Kg (HandSHeadRun.getT s)
set_option maxHeartbeats 0 in
theorem run0 (w : World) (os : OsState) : (en w os).map (fun s => (HandSHeadRun.looksF R.prog (PySem.W.boot_heap w.params) s.abs, HandSHeadRun.seenQ (PySem.W.view R.prog [50]) looseL (PySem.importedModules R.prog.main.body) (fun s => PySem.W.xlAt (PySem.W.view R.prog [50]) [] s && PySem.W.recOk R.toRowW.records s) s.abs)) = some (true, PySem.W.openGood (PySem.W.view R.prog [50]) looseL) := by
  kernel_rfl
set_option maxHeartbeats 0 in
theorem rf0 (w : World) (os : OsState) : (en w os).map (fun s => fa0.all fun f => f.ok (Ks s)) = some true := by
  kernel_rfl
set_option maxHeartbeats 0 in
theorem rd0 (w : World) (os : OsState) : (en w os).map (fun s => (fn0.all fun d => d.ok (Ks s), fn0.map fun d => He.fnW (Ks s) d.at_)) = some (true, fn0.map He.DefD.val) := by
  kernel_rfl
set_option maxHeartbeats 0 in
theorem rx (w : World) (os : OsState) : (en w os).map (fun s => (exL (Ks s) && He.tabsB (HandSHeadRun.getT s) tfL (Ks s))) = some true := by
  kernel_rfl
theorem run (w : World) : HandSHeadRun.RunEq R (PySem.W.view R.prog [50]) hk ob 7000 looseL w := fun os => by
  refine HF.run_of (run0 w os) fun s e => HF.seen_of ?_ ?_ ?_ (HF.at_ (rx w os) e)
  · exact (HF.at_ (rf0 w os) e)
  · exact (congrArg (fun z : Bool × List He.FnW => z.1) (HF.at_ (rd0 w os) e))
  · exact (congrArg (fun z : Bool × List He.FnW => z.2) (HF.at_ (rd0 w os) e))
end NH

set_option Elab.async false
set_option linter.all false
set_option maxRecDepth 100000
set_option maxHeartbeats 4000000
namespace LH
open PySem PySem.Spec PyProof.Rows L2 Evl LT LG
/-! ### generator expressions, whatever their elements do -/
/-- the context of a generator's frame: its own stack, what stands at its start -/
abbrev gnb (X : Cx) (A' : Around) (s : Shared) (H : Hp) (cenv : Env) (fp : List Addr) : Cx :=
  { X with A := A', s_0 := s, H_0 := H, env := cenv, outer := X.stack, stack := cenv :: X.stack, ex := fp, fn := fun _ => false, calm := true, pn := [], xe := fun _ _ => False }
/-- the frame's own environment -/
abbrev gnE (X : Cx) (scope : Scope) (C : Addr) (code : Value) : Env := genEnv scope (cloFrom X.env.cells scope.names []) C code builtinsNs X.env
section
variable {X : Cx} {pins : List (Addr × Obj)} {σ : L2.St} {H : Hp} {s : Shared}
theorem clo_back {cells : List (Str × Addr)} {scope : Scope} (hfree : ∀ y ∈ scope.names, y.2 = .free → ∃ c, cells.lookup y.1 = some c) {y : Str} {c : Addr} (e : (cloFrom cells scope.names []).lookup y = some c) : (y, NameKind.free) ∈ scope.names ∧ cells.lookup y = some c := by
  rcases cloFrom_mem (PySem.mem_of_lookup e) with h | ⟨h1, h2⟩
  · cases h
  · obtain ⟨d, hd⟩ := hfree _ h1 rfl
    have hd' : cells.lookup y = some d := hd
    rw [hd'] at h2
    exact ⟨h1, by rw [hd', h2]; rfl⟩
theorem gen_begin {A' : Around} {scope : Scope} {own : List (Str × Nat)} {fp : List Addr} {code : Value} {m : Str → Option Value} {h' : Heap} {g' : Array GenState} {t' : Nat} (I : Inv X pins σ H s) (ok : BlkOk X.N X.env.scope scope own) (hcell : ∀ y ∈ scope.names, y.2 ≠ .cell) (hN : X.N.Nodup)
    (hfp : ∀ b ∈ fp, FpOk X pins H b ∧ b < s.heap.objs.size) (hA : A'.handled = none) (hfr : A'.frames = some (gnE X scope s.heap.objs.size code :: X.stack)) (hk : ∀ b o, s.heap.get? b = some o → h'.get? b = some o) (hn : h'.Ns s.heap.objs.size m) (hg : AllBare g') :
    Inv (gnb X A' s H (gnE X scope s.heap.objs.size code) fp) [] (wipe σ (own.map (·.2))) H { s with heap := h', gens := g', toks := t' } := by
  have hfree : ∀ y ∈ scope.names, y.2 = .free → ∃ c, X.env.cells.lookup y.1 = some c := fun y hy e => (ok.free y hy e).elim (fun k => I.ok.has _ (.inl k)) fun k => I.ok.has _ (.inr k)
  have back : ∀ {y : Str} {c : Addr}, (gnE X scope s.heap.objs.size code).cells.lookup y = some c → (y, NameKind.free) ∈ scope.names ∧ X.env.cells.lookup y = some c := fun {y c} e => clo_back hfree e
  have clt : ∀ {y : Str} {c : Addr}, X.env.cells.lookup y = some c → c < s.heap.objs.size := fun {y c} e => let ⟨_, z⟩ := I.cell _ _ e; z.lt
  have fwd : ∀ {y : Str}, scope.names.lookup y = some .free → ∃ c, (gnE X scope s.heap.objs.size code).cells.lookup y = some c ∧ X.env.cells.lookup y = some c := fun {y} hl =>
    let ⟨c, hc⟩ := hfree _ (PySem.mem_of_lookup hl) rfl
    ⟨c, clo_lookup (PySem.mem_of_lookup hl) hc, hc⟩
  have okG : (gnb X A' s H (gnE X scope s.heap.objs.size code) fp).Ok := by
    refine ⟨I.ok.mod, ok.kind, I.ok.glob, rfl, Nat.le_refl _, fun y z c e1 e2 => I.ok.inj y z c (back e1).2 (back e2).2, fun y hy => ?_, fun y c z => (Bool.noConfusion (show false = true from z)), fun _ => hA, hfr, .inr ⟨rfl, rfl⟩, fun b hb => ⟨Nat.ne_of_lt (hfp b hb).2, fun y c e z => (hfp b hb).1.2.2.2.2.1 y c (back e).2 z⟩, I.bs, Nat.le_trans I.ok.bsz I.sz, fun b o e hb => ?_, fun b hb z => ?_, I.stack, I.stkFree⟩
    · rcases hy with hy | hy
      · exact absurd rfl (hcell _ (PySem.mem_of_lookup (show scope.names.lookup y = some .cell from hy)))
      · obtain ⟨c, h1, _⟩ := fwd (show scope.names.lookup y = some .free from hy)
        exact ⟨c, h1⟩
    · rcases (hfp b hb).1.2.2.2.1 with z | z
      · exact I.ok.noex b o e z
      · exact Nat.lt_irrefl _ (Nat.lt_of_lt_of_le (Nat.lt_of_lt_of_le (Heap.lt_size e) I.ok.bsz) z)
    · rcases List.mem_cons.mp (I.stkSub b z) with z | z
      · exact (hfp b hb).1.2.1 z
      · exact (hfp b hb).1.2.2.1 z
  refine ⟨okG, rfl, hg, Un.kept hk, ⟨m, hn, fun i y av e1 e2 e3 => ?_⟩, fun y c e => ?_, I.hok.fresh (Nat.le_refl _), fun y c e => I.freeC y c (back e).2, fun p hp => absurd (show p ∈ ([] : List (Addr × Obj)) ++ [] from hp) (by simp), I.hok.kept hk, by rw [wipe_length]; exact I.len⟩
  · obtain ⟨e2, hne⟩ := wipe_some e2
    have hfr : scope.names.lookup y = some .free := by
      have no : ∀ k, scope.names.lookup y = some k → ¬ (k = .local ∨ k = .cell) := fun k hk hh => by
        rcases ok.own _ (PySem.mem_of_lookup hk) hh with e' | e'
        · obtain ⟨p, hp, hpy⟩ := List.mem_map.mp e'
          have e4 := ok.ix p hp
          have : p.1 = y := hpy
          rw [this] at e4
          exact hne (List.mem_map.mpr ⟨p, hp, nodup_ix hN e4 e1⟩)
        · exact e' (List.mem_of_getElem? e1)
      rcases (show Vis scope y from e3) with e3 | e3 | e3
      · exact absurd (.inl rfl) (no _ e3)
      · exact absurd (.inr rfl) (no _ e3)
      · exact e3
    obtain ⟨m0, _, hl⟩ := I.loc
    have hvis : Vis X.env.scope y := (ok.free _ (PySem.mem_of_lookup hfr) rfl).elim (fun k => .inr (.inl k)) fun k => .inr (.inr k)
    obtain ⟨w, r, q⟩ := hl i y av e1 e2 hvis
    obtain ⟨c, h1, h2⟩ := fwd hfr
    refine ⟨w, r, .inr ⟨.inr hfr, c, h1, ?_⟩⟩
    rcases q with ⟨k, _⟩ | ⟨_, c', e', z⟩
    · have k : X.env.scope.names.lookup y = some .local := k
      rcases ok.free _ (PySem.mem_of_lookup hfr) rfl with k' | k' <;> rw [show X.env.scope.names.lookup y = _ from k'] at k <;> cases k
    · rw [h2] at e'; cases e'
      exact z.keeps hk
  · obtain ⟨w, z⟩ := I.cell y c (back e).2
    exact ⟨w, z.keeps hk⟩
/-! ### turns -/
/-- what stands between two turns: i taken -/
def Btw (Y : Cx) (a : Addr) (oa : Obj) (τ : L2.St) (fp : List Addr) (tn : Nat → Heap → Prop) (W : Nat → Hp → Prop) (Sp : List Addr) (i : Nat) (s : Shared) : Prop :=
  ∃ (H' : Hp) (ps : List (Addr × Obj)), ps.map (·.1) = Sp ∧ Inv Y ((a, oa) :: ps) τ H' s ∧ tn i s.heap ∧ (∀ b ∈ fp, FpOk Y ((a, oa) :: ps) H' b) ∧ W i H'
/-- the end -/
def Gone (Y : Cx) (a : Addr) (oa : Obj) (τ : L2.St) (W : Nat → Hp → Prop) (n : Nat) (Sp : List Addr) (s : Shared) : Prop :=
  ∃ (H' : Hp) (ps : List (Addr × Obj)) (i : Nat), i ≤ n ∧ ps.map (·.1) = Sp ∧ Inv Y ((a, oa) :: ps) τ H' s ∧ W i H'
def Same (Sp : List Addr) (s s' : Shared) : Prop := ∀ b ∈ Sp, ∃ o, s.heap.get? b = some o ∧ s'.heap.get? b = some o
theorem Same.trans {Sp : List Addr} {s s1 s2 : Shared} (a : Same Sp s s1) (b : Same Sp s1 s2) : Same Sp s s2 := fun x hx => by
  obtain ⟨o, h1, h2⟩ := a x hx
  obtain ⟨o', h3, h4⟩ := b x hx
  rw [h2] at h3
  cases h3
  exact ⟨o, h1, h4⟩
theorem same_pins {Y : Cx} {p : Addr × Obj} {ps q1 q2 : List (Addr × Obj)} {τ τ' : L2.St} {H H' : Hp} {s s' : Shared} (I : Inv Y (p :: ps ++ q1) τ H s) (I' : Inv Y (p :: ps ++ q2) τ' H' s') : Same (ps.map (·.1)) s s' := fun b hb => by
  obtain ⟨x, hx, rfl⟩ := List.mem_map.mp hb
  have m : ∀ q, x ∈ Y.pn ++ (p :: ps ++ q) := fun q => List.mem_append_right _ (List.mem_append_left _ (List.mem_cons_of_mem _ hx))
  exact ⟨x.2, (I.pin x (m _)).1, (I'.pin x (m _)).1⟩
theorem same_pins0 {Y : Cx} {p : Addr × Obj} {ps : List (Addr × Obj)} {τ τ' : L2.St} {H H' : Hp} {s s' : Shared} (I : Inv Y (p :: ps) τ H s) (I' : Inv Y (p :: ps) τ' H' s') : Same (ps.map (·.1)) s s' :=
  same_pins (q1 := []) (q2 := []) (by simpa using I) (by simpa using I')
/-- what is handed out -/
def GPr (vals : Nat → V) (n : Nat) (Sp : List Addr) (J : Nat → Shared → Prop) : Protocol := fun m s₀ v s kap =>
  ∃ i, i + m + 1 = n ∧ RelV (vals i) v ∧ Same Sp s₀ s ∧ J (i + 1) s ∧ ∀ s'', J (i + 1) s'' → kap (.send .none) s''
theorem seg_turns {A₁ : Around} {elt tg iter : Expr} {scope : Scope} {pos : Pos} {it a : Addr} {oa : Obj} {cenv : Env} {Y : Cx} {fp : List Addr} {tn : Nat → Heap → Prop} {J : It} {W : Nat → Hp → Prop} {Sp : List Addr} {n : Nat} {vals : Nat → V} {g : TG} {te : TE} {vs : List Nat} {σ : L2.St}
    (hYA : Y.A = A₁.over (.compLoop (.GeneratorExp elt [⟨tg, iter, [], 0⟩] scope pos) 0 (.ref it) .none cenv) []) (hYe : Y.env = cenv) (hc : Y.calm = true) (hxe : Y.xe = fun _ _ => False) (hco : cenv.scope.isCoroutine = false) (T : Turn Y.prog Y.w Y.K tg J fp it tn) (pg : PG Y tg g) (pe : PE Y elt te)
    (turn : ∀ i H', i < n → W i H' → J.go i H' ∧ ∀ x H2, J.yld i H' x H2 → g x (wipe σ vs) H2 fun σ2 H3 => wipe σ2 vs = wipe σ vs ∧ te σ2 H3 fun y H4 => y = vals i ∧ W (i + 1) H4) (stop : ∀ H', W n H' → J.stop n H') :
    ∀ (k i : Nat) (s₀ s : Shared), n - i = k → i ≤ n → Same Sp s₀ s → Btw Y a oa (wipe σ vs) fp tn W Sp i s →
      Seg (model Y.prog Y.w) A₁ (fun m s₀ r s₁ => r = .ok .next ∧ (m = 0 ∧ (Same Sp s₀ s₁ ∧ Gone Y a oa (wipe σ vs) W n Sp s₁))) (GPr vals n Sp (Btw Y a oa (wipe σ vs) fp tn W Sp)) (n - i) s₀
        (.compLoop (.GeneratorExp elt [⟨tg, iter, [], 0⟩] scope pos) 0 (.ref it) .none cenv) ((model Y.prog Y.w).den (.compLoop (.GeneratorExp elt [⟨tg, iter, [], 0⟩] scope pos) 0 (.ref it) .none cenv)) [] s := by
  intro k
  induction k with
  | zero =>
    intro i s₀ s hk hi hS ⟨H', ps, hps, I, st, hf, w⟩
    obtain rfl : i = n := by omega
    show Seg _ A₁ _ _ _ s₀ _ ((compTurn (.GeneratorExp elt [⟨tg, iter, [], 0⟩] scope pos) 0 (.ref it) .none cenv).onRaise (leaving cenv)) [] s
    rw [compTurn_gen, Sem.onRaise_eq_wrap]
    refine seg_bind_wrap (wpAny_standAt (seg_bind_wrap ?_))
    have td := T.done Y rfl rfl rfl hc i _ s _ H' (fun _ _ => False) I hf st (stop _ w)
    rw [hYA] at td
    refine thnF td fun r s1 ⟨hr, I1⟩ => ?_
    subst hr
    exact seg_end (.ok .next) ⟨rfl, by omega, hS.trans (hps ▸ same_pins0 I I1), H', ps, i, Nat.le_refl _, hps, I1, w⟩
  | succ k ih =>
    intro i s₀ s hk hi hS ⟨H', ps, hps, I, st, hf, w⟩
    have hlt : i < n := by omega
    obtain ⟨m, hm⟩ : ∃ m, n - i = m + 1 := ⟨n - i - 1, by omega⟩
    show Seg _ A₁ _ _ _ s₀ _ ((compTurn (.GeneratorExp elt [⟨tg, iter, [], 0⟩] scope pos) 0 (.ref it) .none cenv).onRaise (leaving cenv)) [] s
    rw [compTurn_gen, Sem.onRaise_eq_wrap]
    refine seg_bind_wrap (wpAny_standAt (seg_bind_wrap ?_))
    obtain ⟨go, step⟩ := turn i H' hlt w
    have ti := T.item Y rfl rfl rfl hc i _ s _ H' (fun _ _ => False) I hf st go
    rw [hYA] at ti
    refine thnF ti fun r s6 ⟨u, hr, h6⟩ => ?_
    subst hr
    refine seg_bind_wrap (thnF h6 fun _ s7 ⟨x, H7, I7, r7, y7, st7, n7⟩ => ?_)
    have hf7 : ∀ b ∈ fp, FpOk Y ((a, oa) :: ps) H7 b := fun b hb => ⟨n7 b hb, (hf b hb).2⟩
    have I7' := I7.pinned hf7 (T.obj _ _ st7)
    have pgr := pg.run _ s7 _ H7 x u _ I7' r7 (step x H7 y7)
    rw [hYA, hYe, hxe] at pgr
    refine seg_bind_wrap (thnF pgr fun _ s8 ⟨σ8, H8, I8, hw8, q8⟩ => ?_)
    refine seg_bind_wrap (wpAny_tests_nil ?_)
    simp only [if_true]
    have hy : ∀ v, yieldOut cenv v = yieldValue v := fun v => by simp only [yieldOut, hco, Bool.false_eq_true, if_false]
    simp only [hy]
    rw [Sem.bind_eq_wrap', Sem.bind_eq_wrap', Sem.wrap_wrap, Sem.wrap_wrap, hm]
    have per := pe.run _ s8 σ8 H8 _ I8 q8
    rw [hYA, hYe, hxe] at per
    refine seg_wrap (thnF per fun v s9 ⟨y, H9, I9, r9, ey, w9⟩ => ?_)
    subst ey
    have keep : ∀ b ∈ fp, ∀ o, s7.heap.get? b = some o → s9.heap.get? b = some o ∧ H9 b = none := fun b hb o e =>
      let z := I9.pin (b, o) (List.mem_append_right _ (List.mem_append_right _ (mem_pinsAt hb e)))
      ⟨z.1, z.2.1⟩
    have hl : (wipe σ vs).length = σ8.length := by rw [← hw8, wipe_length]
    have B9 : Btw Y a oa (wipe σ vs) fp tn W Sp (i + 1) s9 := ⟨H9, ps, hps, (I9.unpinned).weak hl fun j v e => by
        rw [← hw8] at e
        exact (wipe_some e).1, T.keep _ _ _ st7 fun b hb o e => (keep b hb o e).1, fun b hb => by
        obtain ⟨o, e, _⟩ := T.obj _ _ st7 b hb
        exact ⟨(keep b hb o e).2, (hf b hb).2⟩, w9⟩
    have S9 : Same Sp s₀ s9 := hS.trans (hps ▸ same_pins (q1 := []) (by simpa using I) I9)
    refine seg_at (seg_yield rfl rfl rfl ⟨i, by omega, r9, S9, B9, fun s'' B'' => ?_⟩)
    have e1 : m = n - (i + 1) := by omega
    rw [e1]
    exact seg_again rfl (ih (i + 1) s'' s'' (by omega) hlt (fun b hb => by
      obtain ⟨H2, ps2, hps2, I2, _⟩ := B''
      rw [← hps2] at hb
      obtain ⟨z, hz, rfl⟩ := List.mem_map.mp hb
      exact ⟨z.2, (I2.pin z (List.mem_append_right _ (List.mem_cons_of_mem _ hz))).1, (I2.pin z (List.mem_append_right _ (List.mem_cons_of_mem _ hz))).1⟩) B'')
end
end LH
namespace LH
open PySem PySem.Spec PyProof.Rows L2 Evl LT LG
section
variable {prog : Program} {w : World} {A : Around} {E : Value → Shared → Prop} {s : Shared}
/-- the generator number g, j of its n items taken -/
def GSt (prog : Program) (w : World) (A : Around) (g n : Nat) (vals : Nat → V) (Sp : List Addr) (J : Nat → Shared → Prop) (Fn : Shared → Prop) (j : Nat) (s : Shared) : Prop :=
  J j s ∧ ∃ gs, s.gens[g]? = some gs ∧ ∀ s'', J j s'' → gs.Goes (model prog w) A.in1 (fun m s₀ r s₁ => r = .ok .next ∧ (m = 0 ∧ (Same Sp s₀ s₁ ∧ Fn s₁))) (GPr vals n Sp J) (n - j) (.send .none) s''
structure JOk (a : Addr) (g : Nat) (J : Nat → Shared → Prop) (Fn : Shared → Prop) : Prop where
  gen : ∀ j s, J j s → s.heap.IsGen a g
  lim : ∀ j s, J j s → s.heap.NoLimit
  set : ∀ j s x, x.bare = true → J j s → J j (s.setGen g x)
  fin : ∀ s h', Fn s → (∀ b o, s.heap.get? b = some o → h'.get? b = some o) → Fn { s.setGen g .finished with heap := h' }
/-- what a consumer may do with the iterator at a -/
structure WG (prog : Program) (w : World) (A : Around) (a : Addr) (n : Nat) (vals : Nat → V) (Sp : List Addr) (St : Nat → Shared → Prop) (Fin : Shared → Prop) : Prop where
  item : ∀ i (s : Shared) (Q : Option Value → Shared → Prop) (E : Value → Shared → Prop), i < n → St i s → (∀ v s', RelV (vals i) v → St (i + 1) s' → Same Sp s s' → Q (some v) s') → wpAny (model prog w) A (pyNext (.ref a)) Q E s
  done : ∀ (s : Shared) (Q : Option Value → Shared → Prop) (E : Value → Shared → Prop), St n s → (∀ s', Fin s' → Same Sp s s' → Q none s') → wpAny (model prog w) A (pyNext (.ref a)) Q E s
  self : ∀ i (s : Shared) (Q : Value → Shared → Prop) (E : Value → Shared → Prop), St i s → Q (.ref a) s → wpAny (model prog w) A (pyIter (.ref a)) Q E s
  fin : ∀ i s, i ≤ n → St i s → Fin s
  upd : ∀ i (s : Shared) h' tk, St i s → (∀ b o, b ∉ Sp → s.heap.get? b = some o → h'.get? b = some o) → (∀ b ∈ Sp, ∃ o, h'.get? b = some o ∧ ∀ v, o.data ≠ .cell v) → St i { s with heap := h', toks := tk }
  finU : ∀ (s : Shared) h' tk, Fin s → (∀ b o, b ∉ Sp → s.heap.get? b = some o → h'.get? b = some o) → (∀ b ∈ Sp, ∃ o, h'.get? b = some o ∧ ∀ v, o.data ≠ .cell v) → Fin { s with heap := h', toks := tk }
theorem WG.of_in1 {a : Addr} {n : Nat} {vals : Nat → V} {Sp : List Addr} {St : Nat → Shared → Prop} {Fin : Shared → Prop} (W : WG prog w A.in1 a n vals Sp St Fin) : WG prog w A a n vals Sp St Fin :=
  ⟨fun i s Q E hi st hQ => wpAny_of_in1 (W.item i s Q E hi st hQ), fun s Q E st hQ => wpAny_of_in1 (W.done s Q E st hQ), fun i s Q E st hQ => wpAny_of_in1 (W.self i s Q E st hQ), W.fin, W.upd, W.finU⟩
theorem gst_item {a : Addr} {g n j : Nat} {vals : Nat → V} {Sp : List Addr} {J : Nat → Shared → Prop} {Fn : Shared → Prop} {Q : Option Value → Shared → Prop} (hh : A.handled = none) (hroom : A.depth < recursionLimit) (K : JOk a g J Fn) (hj : j < n) (st : GSt prog w A g n vals Sp J Fn j s)
    (hQ : ∀ v s', RelV (vals j) v → GSt prog w A g n vals Sp J Fn (j + 1) s' → Same Sp s s' → Q (some v) s') : wpAny (model prog w) A (pyNext (.ref a)) Q E s := by
  obtain ⟨hJ, gs, hgs, hgo⟩ := st
  obtain ⟨m, hm⟩ : ∃ m, n - j = m + 1 := ⟨n - j - 1, by omega⟩
  rw [hm] at hgo
  refine GenW.wpAny_gsz (Nat.le_refl s.gens.size) (wpAny_pyNext_genexpQ (P := fun k s₀ s₁ => k = 0 ∧ (Same Sp s₀ s₁ ∧ Fn s₁)) hh (K.lim _ _ hJ) hroom (K.gen _ _ hJ) hgs (hgo _ (K.set _ _ _ rfl hJ)) (fun v s₁ gs' hb hv => ?_) (fun s₁ hp h' hk => absurd hp.1 (Nat.succ_ne_zero m)))
  obtain ⟨i, hi, hr, hS, hJ1, hkap⟩ := hv
  intro hsz
  obtain rfl : i = j := by omega
  have hgl : g < s₁.gens.size := by
    rw [GenW.setGen_size] at hsz
    exact Nat.lt_of_lt_of_le (Array.getElem?_eq_some_iff.mp hgs).1 hsz
  refine hQ v _ hr ⟨K.set _ _ _ hb hJ1, gs', by simp [Shared.setGen, hgl], fun s'' hs => ?_⟩ hS
  have e : n - (i + 1) = m := by omega
  rw [e]
  exact hkap s'' hs
theorem gst_done {a : Addr} {g n : Nat} {vals : Nat → V} {Sp : List Addr} {J : Nat → Shared → Prop} {Fn : Shared → Prop} {Q : Option Value → Shared → Prop} (hh : A.handled = none) (hroom : A.depth < recursionLimit) (K : JOk a g J Fn) (st : GSt prog w A g n vals Sp J Fn n s)
    (hQ : ∀ s', Fn s' → Same Sp s s' → Q none s') : wpAny (model prog w) A (pyNext (.ref a)) Q E s := by
  obtain ⟨hJ, gs, hgs, hgo⟩ := st
  rw [Nat.sub_self] at hgo
  refine wpAny_pyNext_genexpQ (P := fun k s₀ s₁ => k = 0 ∧ (Same Sp s₀ s₁ ∧ Fn s₁)) hh (K.lim _ _ hJ) hroom (K.gen _ _ hJ) hgs (hgo _ (K.set _ _ _ rfl hJ)) (fun v s₁ gs' hb hv => ?_) (fun s₁ hp h' hk => ?_)
  · obtain ⟨i, _, _, _, hJ1, hkap⟩ := hv
    exact (hkap s₁ hJ1).elim
  · exact hQ _ (K.fin _ _ hp.2.2 hk) fun b hb => let ⟨o, h1, h2⟩ := hp.2.1 b hb; ⟨o, h1, hk _ _ h2⟩
end
/-! ### consumers -/
section
variable {prog : Program} {w : World} {A : Around} {E : Value → Shared → Prop} {R : Result → Shared → Prop} {s : Shared} {a : Addr} {n : Nat} {vals : Nat → V} {St : Nat → Shared → Prop} {Fin : Shared → Prop}
theorem drop_at {n i : Nat} (h : i < n) : (List.range n).drop i = i :: (List.range n).drop (i + 1) := by
  rw [List.drop_eq_getElem_cons (by rw [List.length_range]; exact h), List.getElem_range]
theorem all_turns {f : Nat → Bool} (W : WG prog w A.in1 a n vals [] St Fin) (hv : ∀ i, vals i = .bl (f i)) : ∀ (k i : Nat) (s : Shared), n - i = k → i ≤ n → St i s → (∀ s', Fin s' → R (.ok (.ret (.bool (((List.range n).drop i).all f)))) s') → codeAny (model prog w) A (.builtin "all.loop" ⟨[.ref a], []⟩) R s := by
  intro k
  induction k with
  | zero =>
    intro i s hk hi st hR
    obtain rfl : i = n := by omega
    refine codeAny_builtin F.entry_all_loop (by
      rw [Around.under_plainId F.plain_all_loop _]
      show wpAny _ A.in1 (pyNext (.ref a) >>= _) _ _ s
      refine wpAny_bind (W.done s _ _ st fun s' hF _ => wpAny_bind (wpAny_rule (wpAny_pure ?_)))
      have q := hR s' hF
      rw [List.drop_of_length_le (by rw [List.length_range] <;> exact Nat.le_refl _)] at q
      exact q)
  | succ k ih =>
    intro i s hk hi st hR
    have hlt : i < n := by omega
    refine codeAny_builtin F.entry_all_loop (by
      rw [Around.under_plainId F.plain_all_loop _]
      show wpAny _ A.in1 (pyNext (.ref a) >>= _) _ _ s
      refine wpAny_bind (W.item i s _ _ hlt st fun v s' r st' _ => wpAny_bind (wpAny_holding ?_))
      rw [hv i] at r
      obtain rfl : v = .bool (f i) := r
      rw [drop_at hlt, List.all_cons] at hR
      refine wpAny_truthy_bool (wpAny_bind (wpAny_letGo ?_))
      cases hb : f i with
      | true =>
        rw [hb] at hR
        exact wpAny_pure ⟨plainId_quiet F.plain_all_loop _, ih (i + 1) s' (by omega) hlt st' hR⟩
      | false =>
        rw [hb] at hR
        exact wpAny_bind (wpAny_rule (wpAny_pure (hR s' (W.fin _ _ hlt st')))))
theorem any_turns {f : Nat → Bool} (W : WG prog w A.in1 a n vals [] St Fin) (hv : ∀ i, vals i = .bl (f i)) : ∀ (k i : Nat) (s : Shared), n - i = k → i ≤ n → St i s → (∀ s', Fin s' → R (.ok (.ret (.bool (((List.range n).drop i).any f)))) s') → codeAny (model prog w) A (.builtin "any.loop" ⟨[.ref a], []⟩) R s := by
  intro k
  induction k with
  | zero =>
    intro i s hk hi st hR
    obtain rfl : i = n := by omega
    refine codeAny_builtin F.entry_any_loop (by
      rw [Around.under_plainId F.plain_any_loop _]
      show wpAny _ A.in1 (pyNext (.ref a) >>= _) _ _ s
      refine wpAny_bind (W.done s _ _ st fun s' hF _ => wpAny_bind (wpAny_rule (wpAny_pure ?_)))
      have q := hR s' hF
      rw [List.drop_of_length_le (by rw [List.length_range] <;> exact Nat.le_refl _)] at q
      exact q)
  | succ k ih =>
    intro i s hk hi st hR
    have hlt : i < n := by omega
    refine codeAny_builtin F.entry_any_loop (by
      rw [Around.under_plainId F.plain_any_loop _]
      show wpAny _ A.in1 (pyNext (.ref a) >>= _) _ _ s
      refine wpAny_bind (W.item i s _ _ hlt st fun v s' r st' _ => wpAny_bind (wpAny_holding ?_))
      rw [hv i] at r
      obtain rfl : v = .bool (f i) := r
      rw [drop_at hlt, List.any_cons] at hR
      refine wpAny_truthy_bool (wpAny_bind (wpAny_letGo ?_))
      cases hb : f i with
      | false =>
        rw [hb] at hR
        exact wpAny_pure ⟨plainId_quiet F.plain_any_loop _, ih (i + 1) s' (by omega) hlt st' hR⟩
      | true =>
        rw [hb] at hR
        exact wpAny_bind (wpAny_rule (wpAny_pure (hR s' (W.fin _ _ hlt st')))))
theorem call_allG {f : Nat → Bool} {Q : Value → Shared → Prop} (W : WG prog w A.in1 a n vals [] St Fin) (hv : ∀ i, vals i = .bl (f i)) (st : St 0 s) (hQ : ∀ s', Fin s' → Q (.bool (allF n f)) s') : wpAny (model prog w) A (call (.builtin "all") [.ref a]) Q E s := by
  refine call_function_tree F.kind_all F.plain_all F.entry_all (F.args_all1 _) (by
    unfold Builtin.«all»
    refine wpAny_bind (m := oneArg "all" _) (wpAny_pure (wpAny_bind (W.self 0 s _ _ st ?_)))
    exact wpAny_pure ⟨plainId_quiet F.plain_all_loop _, all_turns W hv n 0 s rfl (Nat.zero_le _) st fun s' hF => by simpa [allF] using hQ s' hF⟩)
theorem call_anyG {f : Nat → Bool} {Q : Value → Shared → Prop} (W : WG prog w A.in1 a n vals [] St Fin) (hv : ∀ i, vals i = .bl (f i)) (st : St 0 s) (hQ : ∀ s', Fin s' → Q (.bool (anyF n f)) s') : wpAny (model prog w) A (call (.builtin "any") [.ref a]) Q E s := by
  refine call_function_tree F.kind_any F.plain_any F.entry_any (F.args_any1 _) (by
    unfold Builtin.«any»
    refine wpAny_bind (m := oneArg "any" _) (wpAny_pure (wpAny_bind (W.self 0 s _ _ st ?_)))
    exact wpAny_pure ⟨plainId_quiet F.plain_any_loop _, any_turns W hv n 0 s rfl (Nat.zero_le _) st fun s' hF => by simpa [anyF] using hQ s' hF⟩)
end
end LH
namespace LH
open PySem PySem.Spec PyProof.Rows L2 Evl LT LG
section
variable {X : Cx} {pins : List (Addr × Obj)} {σ : L2.St} {H : Hp} {s : Shared}
theorem inv_setGen {g : Nat} {x : GenState} (I : Inv X pins σ H s) (hx : x.bare = true) : Inv X pins σ H (s.setGen g x) :=
  ⟨I.ok, I.os, L2.allBare_setGen I.bare hx, I.base, I.loc, I.cell, I.free, I.freeC, I.pin, I.hok, I.len⟩
theorem pins_map {Sp : List Addr} {h : Heap} (hn : ∀ b ∈ Sp, ∃ o, h.get? b = some o ∧ ∀ v, o.data ≠ .cell v) : (pinsAt Sp h).map (·.1) = Sp := by
  induction Sp with
  | nil => rfl
  | cons b r ih =>
    obtain ⟨o, ho, _⟩ := hn b List.mem_cons_self
    have := ih fun c hc => hn c (List.mem_cons_of_mem _ hc)
    unfold pinsAt at this ⊢
    rw [List.filterMap_cons, ho]
    show b :: _ = _
    rw [this]
theorem inv_spec {Y : Cx} {p : Addr × Obj} {ps : List (Addr × Obj)} {Sp : List Addr} {τ : L2.St} {h' : Heap} {tk : Nat} (hpn : Y.pn = []) (hps : ps.map (·.1) = Sp) (hSp : ∀ b ∈ Sp, Y.s_0.heap.objs.size ≤ b ∧ b ≠ p.1) (I : Inv Y (p :: ps) τ H s)
    (k : ∀ b o, b ∉ Sp → s.heap.get? b = some o → h'.get? b = some o) (hn : ∀ b ∈ Sp, ∃ o, h'.get? b = some o ∧ ∀ v, o.data ≠ .cell v) : Inv Y (p :: pinsAt Sp h') τ H { s with heap := h', toks := tk } := by
  have pin : ∀ b ∈ Sp, H b = none ∧ b ≠ Y.env.locals ∧ b ∉ Y.fs ∧ ∃ o, s.heap.get? b = some o ∧ ∀ v, o.data ≠ .cell v := fun b hb => by
    rw [← hps] at hb
    obtain ⟨z, hz, rfl⟩ := List.mem_map.mp hb
    have y := I.pin z (List.mem_append_right _ (List.mem_cons_of_mem _ hz))
    exact ⟨y.2.1, y.2.2.1, y.2.2.2.1, z.2, y.1, y.2.2.2.2⟩
  have I1 : Inv Y [p] τ H s := I.pins_of fun q hq => I.pin q (List.mem_append_right _ (by rw [List.mem_singleton.mp hq]; exact List.mem_cons_self))
  have I2 := I1.turnedL (t' := tk) (ch := Sp) (h' := h') k fun b hb => ⟨(pin b hb).1, (pin b hb).2.1, (pin b hb).2.2.1, .inr (hSp b hb).1, fun x c e z => by
      obtain ⟨v, o', h1, h2⟩ := I.cell x c e
      obtain ⟨o, h3, h4⟩ := (pin b hb).2.2.2
      rw [z, h3] at h1
      cases h1
      exact h4 _ h2, fun q hq => by
      rw [hpn, List.nil_append] at hq
      rw [List.mem_singleton.mp hq]
      exact (hSp b hb).2.symm⟩
  refine I2.pins_of fun q hq => ?_
  rcases List.mem_cons.mp hq with rfl | hq
  · exact I2.pin _ (List.mem_append_right _ List.mem_cons_self)
  · obtain ⟨hb, e⟩ := of_pinsAt hq
    obtain ⟨o, h1, h2⟩ := hn _ hb
    rw [e] at h1
    cases h1
    exact ⟨e, (pin _ hb).1, (pin _ hb).2.1, (pin _ hb).2.2.1, h2⟩
section
variable {Y : Cx} {a : Addr} {oa : Obj} {τ : L2.St} {fp : List Addr} {tn : Nat → Heap → Prop} {W : Nat → Hp → Prop} {Sp : List Addr} {i n g : Nat} {J : It} {tg : Expr} {it : Addr}
theorem btw_upd {h' : Heap} {tk : Nat} (T : Turn Y.prog Y.w Y.K tg J fp it tn) (hpn : Y.pn = []) (hSp : ∀ b ∈ Sp, Y.s_0.heap.objs.size ≤ b ∧ b ≠ a) (B : Btw Y a oa τ fp tn W Sp i s) (k : ∀ b o, b ∉ Sp → s.heap.get? b = some o → h'.get? b = some o) (hn : ∀ b ∈ Sp, ∃ o, h'.get? b = some o ∧ ∀ v, o.data ≠ .cell v) :
    Btw Y a oa τ fp tn W Sp i { s with heap := h', toks := tk } := by
  obtain ⟨H', ps, hps, I, st, hf, w⟩ := B
  have nf : ∀ b ∈ fp, b ∉ Sp := fun b hb z => by
    rw [← hps] at z
    obtain ⟨q, hq, e⟩ := List.mem_map.mp z
    exact (hf b hb).2.2.2.2.2 q (List.mem_append_right _ (List.mem_cons_of_mem _ hq)) e
  refine ⟨H', _, pins_map hn, inv_spec hpn hps hSp I k hn, T.keep _ _ _ st fun b hb o e => k b o (nf b hb) e, fun b hb => ⟨(hf b hb).1, (hf b hb).2.1, (hf b hb).2.2.1, (hf b hb).2.2.2.1, (hf b hb).2.2.2.2.1, fun q hq e => ?_⟩, w⟩
  rw [hpn, List.nil_append] at hq
  rcases List.mem_cons.mp hq with rfl | hq
  · exact (hf b hb).2.2.2.2.2 (a, oa) (List.mem_append_right _ List.mem_cons_self) e
  · exact nf b hb (e ▸ (of_pinsAt hq).1)
theorem gone_upd {h' : Heap} {tk : Nat} (hpn : Y.pn = []) (hSp : ∀ b ∈ Sp, Y.s_0.heap.objs.size ≤ b ∧ b ≠ a) (B : Gone Y a oa τ W n Sp s) (k : ∀ b o, b ∉ Sp → s.heap.get? b = some o → h'.get? b = some o) (hn : ∀ b ∈ Sp, ∃ o, h'.get? b = some o ∧ ∀ v, o.data ≠ .cell v) :
    Gone Y a oa τ W n Sp { s with heap := h', toks := tk } := by
  obtain ⟨H', ps, i, hi, hps, I, w⟩ := B
  exact ⟨H', _, i, hi, pins_map hn, inv_spec hpn hps hSp I k hn, w⟩
theorem jok (hG : ∀ h : Heap, h.get? a = some oa → h.IsGen a g) : JOk a g (Btw Y a oa τ fp tn W Sp) (Gone Y a oa τ W n Sp) :=
  ⟨fun j s ⟨_, _, _, I, _⟩ => hG _ (I.pin (a, oa) (List.mem_append_right _ List.mem_cons_self)).1, fun j s ⟨_, _, _, I, _⟩ => I.nolimit, fun j s x hx ⟨H', ps, hps, I, r⟩ => ⟨H', ps, hps, inv_setGen I hx, r⟩,
    fun s h' ⟨H', ps, i, hi, hps, I, w⟩ k => by
      have J := (inv_setGen (g := g) (x := .finished) I rfl).kept (t' := s.toks) (h' := h') k
      refine ⟨H', ps, i, hi, hps, ?_, w⟩
      exact J.pins_of fun q hq => by
        have z := I.pin q (List.mem_append_right _ hq)
        exact ⟨k _ _ z.1, z.2⟩⟩
end
/-- the generator at a: for any consumer -/
def RdyX (X : Cx) (pins : List (Addr × Obj)) (σ : L2.St) (n : Nat) (vals : Nat → V) (QF : Hp → Prop) (a : Addr) (s5 : Shared) : Prop :=
  ∃ (St : List Addr → Nat → Shared → Prop) (Fin : List Addr → Shared → Prop), (∀ Sp, (∀ b ∈ Sp, s5.heap.objs.size ≤ b) → WG X.prog X.w X.A.in1 a n vals Sp (St Sp) (Fin Sp)) ∧
    (∀ Sp h' tk, (∀ b ∈ Sp, s5.heap.objs.size ≤ b) → (∀ b o, s5.heap.get? b = some o → h'.get? b = some o) → (∀ b ∈ Sp, ∃ o, h'.get? b = some o ∧ ∀ v, o.data ≠ .cell v) → St Sp 0 { s5 with heap := h', toks := tk }) ∧ ∀ Sp s', Fin Sp s' → ∃ H', Inv X pins σ H' s' ∧ QF H'
/-- (.. for t in e), handed to a consumer that makes r of what comes -/
def tGX (P : Addr) (ok : Nat → (Nat → V) → V → Prop) (wi : TI) (g : TG) (te : TE) (vs : List Nat) : TE := fun σ H Q => wi σ H fun J H1 => Tab H1 P ∧ ∃ (n : Nat) (vals : Nat → V) (r : V) (W : Nat → Hp → Prop), ok n vals r ∧ W 0 H1 ∧
  (∀ i H', i < n → W i H' → J.go i H' ∧ ∀ x H2, J.yld i H' x H2 → g x (wipe σ vs) H2 fun σ2 H3 => wipe σ2 vs = wipe σ vs ∧ te σ2 H3 fun y H4 => y = vals i ∧ W (i + 1) H4) ∧ (∀ H', W n H' → J.stop n H') ∧ ∀ i H', i ≤ n → W i H' → Q r H'
structure GenX (env : Env) (scope : Scope) : Prop where
  co : scope.isCoroutine = false
  cell : ∀ y ∈ scope.names, y.2 ≠ .cell
  dot : scope.names.lookup (".0" : Str) = some NameKind.local
theorem gen_makeX {c P : Addr} {elt tg iter : Expr} {scope : Scope} {own : List (Str × Nat)} {gpos : Pos} {wi : TI} {g : TG} {te : TE} {k : Nat} {Q : VK} {Q' : Value → Shared → Prop} {okc : Nat → (Nat → V) → V → Prop} (hr : Room (k + 1) X.A) (hN : X.N.Nodup) (TB : LamX.TabB X.base X.mg c P) (hcode : X.env.code = .ref c) (S : GenX X.env scope) (ok : BlkOk X.N X.env.scope scope own)
    (hi : PI X tg iter wi) (hs : ∀ v, genFold iter X.env v = pure v) (hg : ∀ (A' : Around) (s : Shared) (H : Hp) (C : Addr) (code : Value) (fp : List Addr), Room k A' → PG (gnb X A' s H (gnE X scope C code) fp) tg g) (he : ∀ (A' : Around) (s : Shared) (H : Hp) (C : Addr) (code : Value) (fp : List Addr), Room k A' → PE (gnb X A' s H (gnE X scope C code) fp) elt te)
    (I : Inv X pins σ H s) (h : tGX P okc wi g te (own.map (·.2)) σ H Q)
    (hQ : ∀ n vals r (W : Nat → Hp → Prop) a s5, okc n vals r → (∀ i H', i ≤ n → W i H' → Q r H') → RdyX X pins σ n vals (fun H' => ∃ i, i ≤ n ∧ W i H') a s5 → Q' (.ref a) s5) :
    wpAny (model X.prog X.w) X.A (eval (.GeneratorExp elt [⟨tg, iter, [], 0⟩] scope gpos) X.env) Q' X.xe s := by
  have hfree : ∀ y ∈ scope.names, y.2 = .free → ∃ c, X.env.cells.lookup y.1 = some c := fun y hy e => (ok.free y hy e).elim (fun k => I.ok.has _ (.inl k)) fun k => I.ok.has _ (.inr k)
  refine wpAny_GeneratorExp_make S.co (closure_ok hfree) S.cell S.dot ok.kind (by have := hr.dp; omega) (thn (hi.run pins s σ H _ I h) fun xv s1 h1 => thn h1 fun itv s2 h2 => ?_) hs
  obtain ⟨it, fp, tn, J, H2, rfl, I2, T, st2, f2, hT, n, vals, r, W, hok, w0, turn, stop, fin⟩ := h2
  refine ⟨I2.nolimit, ?_⟩
  obtain ⟨ps, hPs, ht⟩ := hT.of_ok I2.hok
  have cd : PySem.W.CodeHd s2.heap c P := TB.code.keeps fun b u e => I2.bk b u e
  have fpP : ∀ b ∈ fp, b ≠ P := fun b hb z => by
    have q := (f2 b hb).1
    rw [z, hT] at q
    cases q
  have go : ∀ (code : Value) (h3 : Heap) (tk : Nat) (ps' : Array Value), (∀ b o, b ≠ P → s2.heap.get? b = some o → h3.get? b = some o) → s2.heap.objs.size ≤ h3.objs.size → h3.get? P = some { cls := .none, data := .fields ps' } → TriplesOk ps'.toList →
      wpAny (model X.prog X.w) X.A (builtinsFor X.env.globals X.env.builtins) (fun bi s₄ => ∀ h', h'.Ns s₄.heap.objs.size (fun y => if y = ".0" then some (.ref it) else none) → Heap.SameBut s₄.heap.objs.size (s₄.heap.push { cls := .type "frame", data := .dict #[] }) h' →
          Q' (.ref h'.objs.size) { s₄ with
            gens := s₄.gens.push (.fresh (.compStart (.GeneratorExp elt [⟨tg, iter, [], 0⟩] scope gpos) 0 (.ref it) .none (genEnv scope (cloFrom X.env.cells scope.names []) s₄.heap.objs.size code bi X.env))),
            toks := s₄.toks + 1 + 1 + 1,
            heap := h'.push { cls := .type "generator", data := .fields #[.int s₄.gens.size 0, .str "<genexpr>" (s₄.toks + 1), .str (X.env.qual ++ "<genexpr>") (s₄.toks + 1 + 1)] } }) X.xe { s2 with heap := h3, toks := tk } := by
    intro code h3 tk ps' hx hsz hP3 ht3
    have I3 : Inv X pins σ H2 { s2 with heap := h3, toks := tk } := inv_grown I2 hT hx ⟨ps', hP3, ht3⟩ rfl I2.bare
    obtain ⟨bm, ob, e1, e2, e3, e4, e5, e6, e7, e8⟩ := TB.bm
    refine wpAny_builtinsFor (m := X.mg) (by rw [I3.ok.glob]; exact I3.mod.glob.keeps I3.bk) e1 e2 (hx _ _ e4 (I2.bk _ _ e5)) e6 e7 e8 ?_
    generalize hs3 : ({ s2 with heap := h3, toks := tk } : Shared) = s3 at I3 ⊢
    have hh3 : s3.heap = h3 := by rw [← hs3]
    intro h' hn' hs'
    have hsz' : h'.objs.size = s3.heap.objs.size + 1 := by rw [hs'.1, Heap.size_push]
    have keep' : ∀ b o, s3.heap.get? b = some o → h'.get? b = some o := fun b o e => hs'.extBut b o (Nat.ne_of_lt (Heap.lt_size e)) (Heap.get?_push_of_some _ e)
    generalize hoa : ({ cls := .type "generator", data := .fields #[.int s3.gens.size 0, .str "<genexpr>" (s3.toks + 1), .str (X.env.qual ++ "<genexpr>") (s3.toks + 1 + 1)] } : Obj) = oa
    have keep5 : ∀ b o, s3.heap.get? b = some o → (h'.push oa).get? b = some o := fun b o e => Heap.get?_push_of_some _ (keep' b o e)
    have hG : ∀ h : Heap, h.get? h'.objs.size = some oa → h.IsGen h'.objs.size s3.gens.size := fun h e => ⟨oa, _, _, e, by rw [← hoa], by rw [← hoa], by rw [← hoa]⟩
    have goa : (h'.push oa).get? h'.objs.size = some oa := Heap.get?_push_size _ (by rw [← hoa]; rfl)
    have noC : ∀ v, oa.data ≠ .cell v := fun v => by rw [← hoa]; intro z; cases z
    have nstk : ∀ b, s3.heap.objs.size ≤ b → b ∉ frs X.stack := fun b hb z => by
      rcases List.mem_cons.mp (I3.stkSub b z) with z | z
      · have := I3.lt
        rw [← z] at this
        exact Nat.lt_irrefl _ (Nat.lt_of_lt_of_le this hb)
      · exact I3.nofs hb z
    have f3 : ∀ b ∈ fp, FpOk X pins H2 b ∧ b < s3.heap.objs.size := fun b hb => by
      obtain ⟨o, e, _⟩ := T.obj _ _ st2 b hb
      exact ⟨f2 b hb, by rw [hh3]; exact Heap.lt_size (hx b o (fpP b hb) e)⟩
    have hA1 : (X.A.in4.in1.over (.compLoop (.GeneratorExp elt [⟨tg, iter, [], 0⟩] scope gpos) 0 (.ref it) .none (gnE X scope s3.heap.objs.size code)) []).handled = none := hr.hd
    have hfr1 : (X.A.in4.in1.over (.compLoop (.GeneratorExp elt [⟨tg, iter, [], 0⟩] scope gpos) 0 (.ref it) .none (gnE X scope s3.heap.objs.size code)) []).frames = some (gnE X scope s3.heap.objs.size code :: X.stack) := by
      show pushEnvs [_] (pushEnvs [] X.A.frames) = _
      rw [I3.ok.frames]
      rfl
    have hrm : Room k (X.A.in4.in1.over (.compLoop (.GeneratorExp elt [⟨tg, iter, [], 0⟩] scope gpos) 0 (.ref it) .none (gnE X scope s3.heap.objs.size code)) []) :=
      ⟨hr.hd, by have := hr.dp; show X.A.depth + 0 + 1 + 3 * k + 5 < _; omega, by have := hr.un; show X.A.units + 1 + 1 + 1 + 1 + 1 + 0 + 3 + 16 * k + 200 < _; omega⟩
    generalize hA' : X.A.in4.in1.over (.compLoop (.GeneratorExp elt [⟨tg, iter, [], 0⟩] scope gpos) 0 (.ref it) .none (gnE X scope s3.heap.objs.size code)) [] = A' at hA1 hfr1 hrm
    have pg := hg A' s3 H2 s3.heap.objs.size code fp hrm
    have pe := he A' s3 H2 s3.heap.objs.size code fp hrm
    have turns := fun (Sp : List Addr) => seg_turns (A₁ := X.A.in4.in1) (Y := gnb X A' s3 H2 (gnE X scope s3.heap.objs.size code) fp) (pos := gpos) (iter := iter) (scope := scope) (it := it) (a := h'.objs.size) (oa := oa) (Sp := Sp) (σ := σ) (vs := own.map (·.2)) hA'.symm rfl rfl rfl S.co T pg pe turn stop
    have begin_ : ∀ {h'' : Heap} {g' : Array GenState} {t' : Nat}, (∀ b o, (h'.push oa).get? b = some o → h''.get? b = some o) → AllBare g' → Inv (gnb X A' s3 H2 (gnE X scope s3.heap.objs.size code) fp) [] (wipe σ (own.map (·.2))) H2 { s3 with heap := h'', gens := g', toks := t' } := fun {h'' g' t'} k1 k2 =>
      gen_begin I3 ok S.cell hN f3 hA1 hfr1 (fun b o e => k1 b o (keep5 b o e)) (hn'.keeps fun b o e => k1 b o (Heap.get?_push_of_some _ e)) k2
    refine hQ n vals r W _ _ hok fin ⟨fun Sp => GSt X.prog X.w X.A.in4 s3.gens.size n vals Sp (Btw (gnb X A' s3 H2 (gnE X scope s3.heap.objs.size code) fp) h'.objs.size oa (wipe σ (own.map (·.2))) fp tn W Sp) (Gone (gnb X A' s3 H2 (gnE X scope s3.heap.objs.size code) fp) h'.objs.size oa (wipe σ (own.map (·.2))) W n Sp),
      fun Sp => Gone (gnb X A' s3 H2 (gnE X scope s3.heap.objs.size code) fp) h'.objs.size oa (wipe σ (own.map (·.2))) W n Sp, fun Sp hSp => ?_, fun Sp h'' tk' hSp hk hn => ?_, fun Sp s' hF => ?_⟩
    · have hSp' : ∀ b ∈ Sp, s3.heap.objs.size ≤ b ∧ b ≠ h'.objs.size := fun b hb => by
        have := hSp b hb
        rw [Heap.size_push] at this
        have h1 : s3.heap.objs.size ≤ h'.objs.size := by rw [hsz']; exact Nat.le_succ _
        exact ⟨Nat.le_trans h1 (Nat.le_of_succ_le this), fun e => by rw [e] at this; exact Nat.lt_irrefl _ this⟩
      have W4 : WG X.prog X.w X.A.in4 h'.objs.size n vals Sp (GSt X.prog X.w X.A.in4 s3.gens.size n vals Sp (Btw (gnb X A' s3 H2 (gnE X scope s3.heap.objs.size code) fp) h'.objs.size oa (wipe σ (own.map (·.2))) fp tn W Sp) (Gone (gnb X A' s3 H2 (gnE X scope s3.heap.objs.size code) fp) h'.objs.size oa (wipe σ (own.map (·.2))) W n Sp)) (Gone (gnb X A' s3 H2 (gnE X scope s3.heap.objs.size code) fp) h'.objs.size oa (wipe σ (own.map (·.2))) W n Sp) :=
        ⟨fun i s Q E hi st hQ => gst_item hr.hd (by have := hr.dp; show X.A.depth < _; omega) (jok hG) hi st hQ, fun s Q E st hQ => gst_done hr.hd (by have := hr.dp; show X.A.depth < _; omega) (jok hG) st hQ, fun i s Q E st hQ => wpAny_pyIter_gen ((jok (n := n) hG).gen _ _ st.1) hQ,
          fun i s hi st => let ⟨⟨H', ps, hps, I, _, _, w⟩, _⟩ := st; ⟨H', ps, i, hi, hps, I, w⟩, fun i s h'' tk' st k1 k2 => ⟨btw_upd T rfl hSp' st.1 k1 k2, st.2⟩, fun s h'' tk' st k1 k2 => gone_upd rfl hSp' st k1 k2⟩
      exact (W4.of_in1).of_in1.of_in1
    · have hlt : ∀ b ∈ Sp, s3.heap.objs.size ≤ b ∧ b ≠ h'.objs.size := fun b hb => by
        have := hSp b hb
        rw [Heap.size_push] at this
        have h1 : s3.heap.objs.size ≤ h'.objs.size := by rw [hsz']; exact Nat.le_succ _
        exact ⟨Nat.le_trans h1 (Nat.le_of_succ_le this), fun e => by rw [e] at this; exact Nat.lt_irrefl _ this⟩
      have ale : s3.heap.objs.size ≤ h'.objs.size := by rw [hsz']; exact Nat.le_succ _
      have I5 := begin_ (t' := tk') hk (I3.bare.push (g := .fresh (.compStart (.GeneratorExp elt [⟨tg, iter, [], 0⟩] scope gpos) 0 (.ref it) .none (gnE X scope s3.heap.objs.size code))) rfl)
      have J0 : Btw (gnb X A' s3 H2 (gnE X scope s3.heap.objs.size code) fp) h'.objs.size oa (wipe σ (own.map (·.2))) fp tn W Sp 0 { s3 with heap := h'', gens := s3.gens.push (.fresh (.compStart (.GeneratorExp elt [⟨tg, iter, [], 0⟩] scope gpos) 0 (.ref it) .none (gnE X scope s3.heap.objs.size code))), toks := tk' } := by
        refine ⟨H2, _, pins_map hn, I5.pins_of fun q hq => ?_, T.keep _ _ _ st2 fun b hb o e => hk _ _ (keep5 _ _ (by rw [hh3]; exact hx b o (fpP b hb) e)), fun b hb => ⟨(f2 b hb).1, Nat.ne_of_lt (f3 b hb).2, fun z => ?_, .inl hb, fun y c' e => (f2 b hb).2.2.2.2.1 y c' (clo_back hfree e).2, fun q hq e => ?_⟩, w0⟩
        · rcases List.mem_cons.mp hq with rfl | hq
          · exact ⟨hk _ _ goa, I3.hok.fresh ale, fun z => by
              have : h'.objs.size = s3.heap.objs.size := z
              rw [hsz'] at this
              exact Nat.succ_ne_self _ this, nstk _ ale, noC⟩
          · obtain ⟨hb, e⟩ := of_pinsAt hq
            obtain ⟨o, h1, h2⟩ := hn _ hb
            rw [e] at h1
            cases h1
            refine ⟨e, I3.hok.fresh (hlt _ hb).1, fun z => ?_, nstk _ (hlt _ hb).1, h2⟩
            have z : q.1 = s3.heap.objs.size := z
            have := hSp _ hb
            rw [Heap.size_push, hsz', z] at this
            exact Nat.lt_irrefl _ (Nat.lt_of_succ_lt this)
        · rcases List.mem_cons.mp (I3.stkSub b z) with z | z
          · exact (f2 b hb).2.1 z
          · exact (f2 b hb).2.2.1 z
        · have lt := (f3 b hb).2
          rcases List.mem_cons.mp (show q ∈ _ :: pinsAt Sp h'' from hq) with rfl | hq
          · have e : h'.objs.size = b := e
            rw [← e] at lt
            exact Nat.lt_irrefl _ (Nat.lt_of_lt_of_le lt ale)
          · have := (hlt _ (of_pinsAt hq).1).1
            rw [e] at this
            exact Nat.lt_irrefl _ (Nat.lt_of_lt_of_le lt this)
      refine ⟨J0, _, Array.getElem?_push_size .., fun s'' hJ => ⟨rfl, ?_⟩⟩
      have loop := turns Sp n 0 s'' s'' (Nat.sub_zero _) (Nat.zero_le _) (fun b hb => by
        obtain ⟨H3, qs, hqs, I6, _⟩ := hJ
        rw [← hqs] at hb
        obtain ⟨z, hz, rfl⟩ := List.mem_map.mp hb
        have y := (I6.pin z (List.mem_append_right _ (List.mem_cons_of_mem _ hz))).1
        exact ⟨z.2, y, y⟩) hJ
      show Seg _ _ _ _ _ s'' _ ((compStart (.GeneratorExp elt [⟨tg, iter, [], 0⟩] scope gpos) 0 (.ref it) .none (gnE X scope s3.heap.objs.size code)).onRaise (leaving (gnE X scope s3.heap.objs.size code))) [] s''
      unfold compStart; rw [Sem.onRaise_eq_wrap]
      refine seg_bind_wrap (m := ask) (wpAny_askSetting ?_)
      obtain ⟨_, _, _, I6, st6, _⟩ := id hJ
      split
      · exact seg_again rfl loop
      · exact seg_bind_wrap (wpAny_rule (seg_bind_wrap (wpAny_standAt (seg_bind_wrap (T.self _ 0 s'' _ _ st6 (seg_again rfl loop))))))
    · obtain ⟨H', qs, i, hi, hqs, I6, w⟩ := hF
      exact ⟨H', I3.call' (ch := fp) I6.os I6.base I6.hok I6.bare fun b hb => ⟨(f2 b hb).2.2.2.1, (f2 b hb).2.1, (f2 b hb).2.2.2.2.1, (f2 b hb).2.2.2.2.2⟩, i, hi, w⟩
  cases hf : codeAmong gpos ps.toList with
  | some cv => exact wpAny_genexprCode_hit hcode (cd.code hPs ht) hf (go cv s2.heap s2.toks ps (fun _ _ _ e => e) (Nat.le_refl _) hPs ht)
  | none =>
    refine wpAny_genexprCodeX hcode (cd.code hPs ht) (cd.tab hPs) hf fun c' h3 tk hx hge hlt hco' _ htab' _ => ?_
    obtain ⟨_, _, _, _, _, _, _, _, _, _, _, _, _, _, _, _, _, _, _, htr, _⟩ := hco'
    exact go _ h3 tk _ hx (Nat.le_trans hge (Nat.le_of_lt hlt)) htab'.2 htr
end
end LH

set_option Elab.async false
set_option linter.all false
set_option maxRecDepth 100000
set_option maxHeartbeats 4000000
namespace LH
open PySem PySem.Spec PyProof.Rows L2 Evl LT LG
section
variable {prog : Program} {w : World} {A : Around} {E : Value → Shared → Prop} {R : Result → Shared → Prop} {s : Shared} {a S : Addr} {n : Nat} {vals : Nat → V} {St : Nat → Shared → Prop} {Fin : Shared → Prop} {val : Nat → Int}
abbrev accO (us : Array Value) (c : Nat) : Obj := { cls := .type "list", dict := none, data := .seq us c, slots := #[] }
theorem same_at {s s' : Shared} {o : Obj} (h : Same [S] s s') (e : s.heap.get? S = some o) : s'.heap.get? S = some o := by
  obtain ⟨o', h1, h2⟩ := h S (List.mem_singleton.mpr rfl)
  rw [e] at h1
  cases h1
  exact h2
theorem upd_keeps {h : Heap} {f : Obj → Obj} : ∀ b o, b ∉ [S] → h.get? b = some o → (h.update S f).get? b = some o := fun b o hb e =>
  (Heap.get?_update_other _ _ fun z : S = b => hb (List.mem_singleton.mpr z.symm)).trans e
theorem sum_turns (W : WG prog w A.in1 a n vals [S] St Fin) (hv : ∀ i, vals i = .int (val i)) (hfit : ∀ j, j < n → InLong (val j) ∧ InLong (preSum val (j + 1))) : ∀ (k i : Nat) (s : Shared) (tA : Tok) (c : Nat), n - i = k → i ≤ n → St i s → s.heap.get? S = some (accO #[.int (preSum val i) tA] c) →
    (∀ s' t', Fin s' → R (.ok (.ret (.int (preSum val n) t'))) s') → codeAny (model prog w) A (.builtin "sum.loop" ⟨[.ref a, .ref S, rawInt 0, rawInt 0], []⟩) R s := by
  intro k
  induction k with
  | zero =>
    intro i s tA c hk hi st hS hR
    obtain rfl : i = n := by omega
    refine codeAny_builtin F.entry_sum_loop (by
      rw [Around.under_plainId F.plain_sum_loop _]
      show wpAny _ A.in1 (seqItems? (.ref S) >>= _) _ _ s
      refine wpAny_bind (wpAny_seqItems hS rfl (show wpAny _ A.in1 (tryCatch (pyNext (.ref a)) _ >>= _) _ _ s from ?_))
      exact wpAny_bind (wpAny_tryCatch (W.done s _ _ st fun s' hF _ => wpAny_pure (hR s' tA hF))))
  | succ k ih =>
    intro i s tA c hk hi st hS hR
    have hlt : i < n := by omega
    refine codeAny_builtin F.entry_sum_loop (by
      rw [Around.under_plainId F.plain_sum_loop _]
      show wpAny _ A.in1 (seqItems? (.ref S) >>= _) _ _ s
      refine wpAny_bind (wpAny_seqItems hS rfl (show wpAny _ A.in1 (tryCatch (pyNext (.ref a)) _ >>= _) _ _ s from ?_))
      refine wpAny_bind (wpAny_tryCatch (W.item i s _ _ hlt st fun v s' r st' sm => ?_))
      rw [hv i] at r
      obtain ⟨t, rfl⟩ := r
      have hS' := same_at sm hS
      obtain ⟨⟨f1, f2⟩, f3, f4⟩ := hfit i hlt
      have hc : ((decide (-(2 ^ 63) ≤ val i) && decide (val i < 2 ^ 63)) && (decide (-(2 ^ 63) ≤ preSum val i + val i) && decide (preSum val i + val i < 2 ^ 63))) = true := by
        simp only [preSum] at f3 f4
        simp only [Bool.and_eq_true, decide_eq_true_eq]
        exact ⟨⟨f1, f2⟩, f3, f4⟩
      show wpAny _ A.in1 (if (_ : Bool) = true then (mkInt (preSum val i + val i) >>= _) else _) _ _ _
      split
      · refine wpAny_bind (wpAny_mkInt (show wpAny _ A.in1 (updateSeq S (fun _ => #[.int (preSum val i + val i) s'.toks]) >>= _) _ _ _ from wpAny_bind ?_))
        refine wpAny_updateSeq hS' rfl (wpAny_pure ⟨plainId_quiet F.plain_sum_loop _, ih (i + 1) _ s'.toks _ (by omega) hlt (W.upd _ s' _ _ st' upd_keeps fun b hb => ?_) (Heap.get?_update_self _ hS' rfl) hR⟩)
        rw [List.mem_singleton.mp hb]
        exact ⟨_, Heap.get?_update_self _ hS' rfl, fun v z => nomatch z⟩
      · rename_i hneg
        exact absurd hc hneg)
/-- the greatest so far -/
def topI (val : Nat → Int) : Nat → Int
  | 0 => val 0
  | k + 1 => if val (k + 1) > topI val k then val (k + 1) else topI val k
theorem max_turns (W : WG prog w A.in1 a n vals [S] St Fin) (hv : ∀ i, vals i = .int (val i)) : ∀ (k j : Nat) (s : Shared) (t : Tok) (c : Nat), n - (j + 1) = k → j + 1 ≤ n → St (j + 1) s → s.heap.get? S = some (accO #[.int (topI val j) t, .int (topI val j) t] c) →
    (∀ s' t', Fin s' → R (.ok (.ret (.int (topI val (n - 1)) t'))) s') → codeAny (model prog w) A (.builtin "max.loop" ⟨[.ref a, .none, .ref S], []⟩) R s := by
  have hname : (toString "max" ++ toString ".loop" : String) = "max.loop" := by decide
  intro k
  induction k with
  | zero =>
    intro j s t c hk hj st hS hR
    have hin : j + 1 = n := by omega
    refine codeAny_builtin F.entry_max_loop (by
      rw [Around.under_plainId F.plain_max_loop _]
      show wpAny _ A.in1 (seqItems? (.ref S) >>= _) _ _ s
      refine wpAny_bind (wpAny_seqItems hS rfl (show wpAny _ A.in1 (tryCatch (pyNext (.ref a)) _ >>= _) _ _ s from ?_))
      refine wpAny_bind (wpAny_tryCatch (W.done s _ _ (hin ▸ st) fun s' hF sm => ?_))
      have hS' := same_at sm hS
      show wpAny _ A.in1 (updateSeq S (fun _ => #[]) >>= _) _ _ _
      refine wpAny_bind (wpAny_updateSeq hS' rfl (wpAny_bind (wpAny_letGo (wpAny_pure ?_))))
      have q := hR { s' with heap := s'.heap.update S (Obj.mapSeq fun _ => #[]) } t (W.finU s' _ s'.toks hF upd_keeps fun b hb => by
        rw [List.mem_singleton.mp hb]
        exact ⟨_, Heap.get?_update_self _ hS' rfl, fun v z => nomatch z⟩)
      rw [← hin] at q
      exact q)
  | succ k ih =>
    intro j s t c hk hj st hS hR
    have hlt : j + 1 < n := by omega
    refine codeAny_builtin F.entry_max_loop (by
      rw [Around.under_plainId F.plain_max_loop _]
      show wpAny _ A.in1 (seqItems? (.ref S) >>= _) _ _ s
      refine wpAny_bind (wpAny_seqItems hS rfl (show wpAny _ A.in1 (tryCatch (pyNext (.ref a)) _ >>= _) _ _ s from ?_))
      refine wpAny_bind (wpAny_tryCatch (W.item (j + 1) s _ _ hlt st fun v s' r st' sm => ?_))
      rw [hv (j + 1)] at r
      obtain ⟨t1, rfl⟩ := r
      have hS' := same_at sm hS
      show wpAny _ A.in1 (tryCatch (holding [Value.int (val (j + 1)) t1, Value.int (val (j + 1)) t1] (richCompare .Gt (Value.int (val (j + 1)) t1) (Value.int (topI val j) t) >>= _)) _ >>= _) _ _ _
      refine wpAny_bind (wpAny_tryCatch (wpAny_holding (wpAny_bind (gt_int (wpAny_bind (wpAny_holding (wpAny_truthy_bool (wpAny_bind (wpAny_letGo (wpAny_pure ?_))))))))))
      by_cases hb : val (j + 1) > topI val j
      · rw [decide_eq_true hb]
        simp only [if_true]
        refine wpAny_bind (wpAny_updateSeq hS' rfl (wpAny_bind (wpAny_letGo ?_)))
        rw [hname]
        refine wpAny_pure ⟨plainId_quiet F.plain_max_loop _, ih (j + 1) _ t1 _ (by omega) hlt (W.upd _ s' _ s'.toks st' upd_keeps fun b hb => ?_) (by
          have e : topI val (j + 1) = val (j + 1) := if_pos hb
          rw [e]
          exact Heap.get?_update_self _ hS' rfl) hR⟩
        rw [List.mem_singleton.mp hb]
        exact ⟨_, Heap.get?_update_self _ hS' rfl, fun v z => nomatch z⟩
      · rw [decide_eq_false hb]
        simp only [Bool.false_eq_true, if_false]
        refine wpAny_bind (wpAny_letGo ?_)
        rw [hname]
        refine wpAny_pure ⟨plainId_quiet F.plain_max_loop _, ih (j + 1) _ t c (by omega) hlt st' (by
          have e : topI val (j + 1) = topI val j := if_neg hb
          rw [e]
          exact hS') hR⟩)
end
end LH
namespace LH
open PySem PySem.Spec PyProof.Rows L2 Evl LT LG
section
variable {prog : Program} {w : World} {A : Around} {E : Value → Shared → Prop} {s : Shared} {a : Addr} {n : Nat} {vals : Nat → V} {val : Nat → Int} {Q : Value → Shared → Prop}
theorem call_sumG (hW : ∀ S, s.heap.objs.size ≤ S → ∃ (St : Nat → Shared → Prop) (Fin : Shared → Prop), WG prog w A.in1 a n vals [S] St Fin ∧ (∀ h' tk, (∀ b o, s.heap.get? b = some o → h'.get? b = some o) → (∃ o, h'.get? S = some o ∧ ∀ v, o.data ≠ .cell v) → St 0 { s with heap := h', toks := tk }) ∧ ∀ s' t', Fin s' → Q (.int (preSum val n) t') s')
    (hself : wpAny (model prog w) A.in1 (pyIter (.ref a)) (fun u s' => u = .ref a ∧ s' = s) E s) (hv : ∀ i, vals i = .int (val i)) (hfit : ∀ j, j < n → InLong (val j) ∧ InLong (preSum val (j + 1))) : wpAny (model prog w) A (call (.builtin "sum") [.ref a]) Q E s := by
  refine call_function_tree F.kind_sum F.plain_sum F.entry_sum (F.args_sum1 _) (by
    unfold Builtin.«sum»
    simp only [List.length_cons, List.length_nil]; rw [if_neg (by decide)]
    refine wpAny_bind (wpAny_of_eq (show Builtin.Builtins.bindParams "sum" ["start"] 0 { } = pure [none] from rfl) (wpAny_bind (wpAny_mono hself (fun u s' h => ?_) fun _ _ e => e)))
    obtain ⟨rfl, rfl⟩ := h
    refine wpAny_bind (wpAny_mkInt (wpAny_bind (wpAny_pure ?_)))
    simp only [List.forIn_cons, List.forIn_nil]
    refine wpAny_bind (wpAny_bind (wpAny_bind (wpAny_isInstance (T := "int") (b := false) (typeIs_int _ _ _) PySem.sub_int_str (by
      simp only [Bool.false_eq_true, if_false]
      refine wpAny_pure (wpAny_bind (wpAny_bind (wpAny_isInstance (T := "int") (b := false) (typeIs_int _ _ _) PySem.sub_int_bytes (by
        simp only [Bool.false_eq_true, if_false]
        refine wpAny_pure (wpAny_bind (wpAny_bind (wpAny_isInstance (T := "int") (b := false) (typeIs_int _ _ _) PySem.sub_int_bytearray (by
          simp only [Bool.false_eq_true, if_false]
          refine wpAny_pure (wpAny_pure (wpAny_bind (wpAny_newObj_type ?_)))
          obtain ⟨St, Fin, W, h0, hQ⟩ := hW s'.heap.objs.size (Nat.le_refl _)
          exact wpAny_pure ⟨plainId_quiet F.plain_sum_loop _, sum_turns W hv hfit n 0 _ s'.toks 0 rfl (Nat.zero_le _) (h0 _ _ (fun b o e => Heap.get?_push_of_some _ e) ⟨_, Heap.get?_push_size _ rfl, fun v z => nomatch z⟩) (Heap.get?_push_size _ rfl) hQ⟩)))))))))))))
theorem call_maxG (hW : ∀ S, s.heap.objs.size ≤ S → ∃ (St : Nat → Shared → Prop) (Fin : Shared → Prop), WG prog w A.in1 a n vals [S] St Fin ∧ (∀ h' tk, (∀ b o, s.heap.get? b = some o → h'.get? b = some o) → (∃ o, h'.get? S = some o ∧ ∀ v, o.data ≠ .cell v) → St 0 { s with heap := h', toks := tk }) ∧ ∀ s' t', Fin s' → Q (.int (topI val (n - 1)) t') s')
    (hself : wpAny (model prog w) A.in1 (pyIter (.ref a)) (fun u s' => u = .ref a ∧ s' = s) E s) (hv : ∀ i, vals i = .int (val i)) (hn : 0 < n) : wpAny (model prog w) A (call (.builtin "max") [.ref a]) Q E s := by
  have hname : (toString "max" ++ toString ".loop" : String) = "max.loop" := by decide
  refine call_function_tree F.kind_max F.plain_max F.entry_max (F.args_max1 _) (by
    show wpAny _ A.in1 (Builtin.Builtins.bindParams "max" ["key", "default"] 0 ⟨[], []⟩ >>= _) _ _ s
    refine wpAny_bind (wpAny_of_eq (show Builtin.Builtins.bindParams "max" ["key", "default"] 0 ⟨[], []⟩ = pure [none, none] from rfl) (wpAny_bind (wpAny_pure (wpAny_bind (wpAny_mono hself (fun u s' h => ?_) fun _ _ e => e)))))
    obtain ⟨rfl, rfl⟩ := h
    refine wpAny_bind (wpAny_newObj_type ?_)
    obtain ⟨St, Fin, W, h0, hQ⟩ := hW s'.heap.objs.size (Nat.le_refl _)
    rw [hname]
    generalize hS : s'.heap.objs.size = S at W h0 ⊢
    have hS0 : (s'.heap.push { cls := .type "list", dict := none, data := .seq #[] 0 }).get? S = some (accO #[] 0) := by rw [← hS]; exact Heap.get?_push_size _ rfl
    have st0 := h0 (s'.heap.push { cls := .type "list", dict := none, data := .seq #[] 0 }) s'.toks (fun b o e => Heap.get?_push_of_some _ e) ⟨_, hS0, fun v z => nomatch z⟩
    refine wpAny_pure ⟨plainId_quiet F.plain_max_loop _, codeAny_builtin F.entry_max_loop (by
      rw [Around.under_plainId F.plain_max_loop _]
      show wpAny _ A.in1 (seqItems? (.ref S) >>= _) _ _ _
      refine wpAny_bind (wpAny_seqItems hS0 rfl (show wpAny _ A.in1 (tryCatch (pyNext (.ref a)) _ >>= _) _ _ _ from ?_))
      refine wpAny_bind (wpAny_tryCatch (W.item 0 _ _ _ hn st0 fun v s2 r st' sm => ?_))
      rw [hv 0] at r
      obtain ⟨t1, rfl⟩ := r
      have hS' := same_at sm hS0
      show wpAny _ A.in1 (updateSeq S (fun _ => #[Value.int (val 0) t1, Value.int (val 0) t1]) >>= _) _ _ _
      refine wpAny_bind (wpAny_updateSeq hS' rfl ?_)
      rw [hname]
      refine wpAny_pure ⟨plainId_quiet F.plain_max_loop _, max_turns W hv _ 0 _ t1 _ rfl hn (W.upd _ s2 _ s2.toks st' upd_keeps fun b hb => ?_) (Heap.get?_update_self _ hS' rfl) hQ⟩
      rw [List.mem_singleton.mp hb]
      exact ⟨_, Heap.get?_update_self _ hS' rfl, fun v z => nomatch z⟩)⟩)
end
/-! ### the rules -/
def okAll (n : Nat) (vals : Nat → V) (r : V) : Prop := ∃ f : Nat → Bool, vals = (fun i => .bl (f i)) ∧ r = .bl (allF n f)
def okAny (n : Nat) (vals : Nat → V) (r : V) : Prop := ∃ f : Nat → Bool, vals = (fun i => .bl (f i)) ∧ r = .bl (anyF n f)
def okSum (n : Nat) (vals : Nat → V) (r : V) : Prop := ∃ f : Nat → Int, vals = (fun i => .int (f i)) ∧ r = .int (preSum f n) ∧ ∀ j, j < n → InLong (f j) ∧ InLong (preSum f (j + 1))
def okMax (n : Nat) (vals : Nat → V) (r : V) : Prop := ∃ f : Nat → Int, vals = (fun i => .int (f i)) ∧ r = .int (topI f (n - 1)) ∧ 0 < n
section
variable {X : Cx} {c P : Addr} {elt tg iter : Expr} {scope : Scope} {own : List (Str × Nat)} {p pos gpos : Pos} {wi : TI} {g : TG} {te : TE} {k : Nat}
theorem pe_gen {bn : Str} {b : String} {okc : Nat → (Nat → V) → V → Prop} (hbb : bootBuiltins bn = some (.builtin b)) (hcall : ∀ (pins : List (Addr × Obj)) (σ : L2.St) (n : Nat) (vals : Nat → V) (r : V) (QF : Hp → Prop) (a : Addr) (s5 : Shared), okc n vals r → RdyX X pins σ n vals QF a s5 → wpAny (model X.prog X.w) X.A (call (.builtin b) [.ref a]) (fun u s' => RelV r u ∧ ∃ H', Inv X pins σ H' s' ∧ QF H') X.xe s5)
    (hr : Room (k + 1) X.A) (hN : X.N.Nodup) (hgl : Gl X bn) (hm : X.mg bn = none) (TB : LamX.TabB X.base X.mg c P) (hcode : X.env.code = .ref c) (S : GenX X.env scope) (ok : BlkOk X.N X.env.scope scope own)
    (hi : PI X tg iter wi) (hs : ∀ v, genFold iter X.env v = pure v) (hg : ∀ (A' : Around) (s : Shared) (H : Hp) (C : Addr) (code : Value) (fp : List Addr), Room k A' → PG (gnb X A' s H (gnE X scope C code) fp) tg g) (he : ∀ (A' : Around) (s : Shared) (H : Hp) (C : Addr) (code : Value) (fp : List Addr), Room k A' → PE (gnb X A' s H (gnE X scope C code) fp) elt te)
    (hst : starEach [.GeneratorExp elt [⟨tg, iter, [], 0⟩] scope gpos] X.env = (false, eval (.GeneratorExp elt [⟨tg, iter, [], 0⟩] scope gpos) X.env) :: starEach [] X.env := by rfl) (hnm : bn ≠ "__name__" := by decide) (hdb : (bn == ("__debug__" : Str)) = false := by decide) :
    PE X (.Call (.Name bn p) [.GeneratorExp elt [⟨tg, iter, [], 0⟩] scope gpos] [] pos) (tGX P okc wi g te (own.map (·.2))) := by
  refine ⟨fun pins s σ H Q I h => wpAny_Call_Name_kw (ld_blt I hgl hm hbb (PyProof.Rows.callWith_builtin1 ?_ hst (by rfl)) hnm hdb)⟩
  rw [hst]
  show wpAny _ _ (spliced ((false, eval (.GeneratorExp elt [⟨tg, iter, [], 0⟩] scope gpos) X.env) :: backTo pos (starEach [] X.env))) _ _ s
  refine Calls.spliced_cons (gen_makeX hr hN TB hcode S ok hi hs hg he I h fun n vals r W a s5 hok fin rdy => Calls.spliced_nil (wpAny_mono (hcall pins σ n vals r _ a s5 hok rdy) (fun u s' ⟨r1, H', I', i, hi, w⟩ => ⟨r, H', I', r1, fin i H' hi w⟩) fun _ _ e => e))
theorem rdy0 {pins : List (Addr × Obj)} {σ : L2.St} {n : Nat} {vals : Nat → V} {QF : Hp → Prop} {a : Addr} {s5 : Shared} (R : RdyX X pins σ n vals QF a s5) : ∃ St Fin, WG X.prog X.w X.A.in1 a n vals [] St Fin ∧ St 0 s5 ∧ ∀ s', Fin s' → ∃ H', Inv X pins σ H' s' ∧ QF H' := by
  obtain ⟨St, Fin, h1, h2, h3⟩ := R
  exact ⟨St [], Fin [], h1 [] (fun b hb => nomatch hb), h2 [] s5.heap s5.toks (fun b hb => nomatch hb) (fun _ _ e => e) (fun b hb => nomatch hb), h3 []⟩
theorem call_all_rdy {pins : List (Addr × Obj)} {σ : L2.St} {n : Nat} {vals : Nat → V} {r : V} {QF : Hp → Prop} {a : Addr} {s5 : Shared} (ok : okAll n vals r) (R : RdyX X pins σ n vals QF a s5) : wpAny (model X.prog X.w) X.A (call (.builtin "all") [.ref a]) (fun u s' => RelV r u ∧ ∃ H', Inv X pins σ H' s' ∧ QF H') X.xe s5 := by
  obtain ⟨f, rfl, rfl⟩ := ok
  obtain ⟨St, Fin, W, st, hF⟩ := rdy0 R
  exact call_allG W (fun _ => rfl) st fun s' h => ⟨rfl, hF s' h⟩
theorem call_any_rdy {pins : List (Addr × Obj)} {σ : L2.St} {n : Nat} {vals : Nat → V} {r : V} {QF : Hp → Prop} {a : Addr} {s5 : Shared} (ok : okAny n vals r) (R : RdyX X pins σ n vals QF a s5) : wpAny (model X.prog X.w) X.A (call (.builtin "any") [.ref a]) (fun u s' => RelV r u ∧ ∃ H', Inv X pins σ H' s' ∧ QF H') X.xe s5 := by
  obtain ⟨f, rfl, rfl⟩ := ok
  obtain ⟨St, Fin, W, st, hF⟩ := rdy0 R
  exact call_anyG W (fun _ => rfl) st fun s' h => ⟨rfl, hF s' h⟩
theorem rdy1 {pins : List (Addr × Obj)} {σ : L2.St} {n : Nat} {vals : Nat → V} {QF : Hp → Prop} {a : Addr} {s5 : Shared} (R : RdyX X pins σ n vals QF a s5) (S : Addr) (hS : s5.heap.objs.size ≤ S) : ∃ (St : Nat → Shared → Prop) (Fin : Shared → Prop), WG X.prog X.w X.A.in1 a n vals [S] St Fin ∧ (∀ h' tk, (∀ b o, s5.heap.get? b = some o → h'.get? b = some o) → (∃ o, h'.get? S = some o ∧ ∀ v, o.data ≠ .cell v) → St 0 { s5 with heap := h', toks := tk }) ∧
    ∀ s', Fin s' → ∃ H', Inv X pins σ H' s' ∧ QF H' := by
  obtain ⟨St, Fin, h1, h2, h3⟩ := R
  have hSp : ∀ b ∈ [S], s5.heap.objs.size ≤ b := fun b hb => by rw [List.mem_singleton.mp hb]; exact hS
  exact ⟨St [S], Fin [S], h1 [S] hSp, fun h' tk k e => h2 [S] h' tk hSp k fun b hb => by rw [List.mem_singleton.mp hb]; exact e, h3 [S]⟩
theorem self_rdy {E : Value → Shared → Prop} {pins : List (Addr × Obj)} {σ : L2.St} {n : Nat} {vals : Nat → V} {QF : Hp → Prop} {a : Addr} {s5 : Shared} (R : RdyX X pins σ n vals QF a s5) : wpAny (model X.prog X.w) X.A.in1 (pyIter (.ref a)) (fun u s' => u = .ref a ∧ s' = s5) E s5 := by
  obtain ⟨St, Fin, W, st, hF⟩ := rdy0 R
  exact W.self 0 _ _ _ st ⟨rfl, rfl⟩
theorem call_sum_rdy {pins : List (Addr × Obj)} {σ : L2.St} {n : Nat} {vals : Nat → V} {r : V} {QF : Hp → Prop} {a : Addr} {s5 : Shared} (ok : okSum n vals r) (R : RdyX X pins σ n vals QF a s5) : wpAny (model X.prog X.w) X.A (call (.builtin "sum") [.ref a]) (fun u s' => RelV r u ∧ ∃ H', Inv X pins σ H' s' ∧ QF H') X.xe s5 := by
  obtain ⟨f, rfl, rfl, hfit⟩ := ok
  exact call_sumG (fun S hS => let ⟨S1, F1, W, h0, hF⟩ := rdy1 R S hS; ⟨S1, F1, W, h0, fun s' t' h => ⟨⟨t', rfl⟩, hF s' h⟩⟩) (self_rdy R) (fun _ => rfl) hfit
theorem call_max_rdy {pins : List (Addr × Obj)} {σ : L2.St} {n : Nat} {vals : Nat → V} {r : V} {QF : Hp → Prop} {a : Addr} {s5 : Shared} (ok : okMax n vals r) (R : RdyX X pins σ n vals QF a s5) : wpAny (model X.prog X.w) X.A (call (.builtin "max") [.ref a]) (fun u s' => RelV r u ∧ ∃ H', Inv X pins σ H' s' ∧ QF H') X.xe s5 := by
  obtain ⟨f, rfl, rfl, hn⟩ := ok
  exact call_maxG (fun S hS => let ⟨S1, F1, W, h0, hF⟩ := rdy1 R S hS; ⟨S1, F1, W, h0, fun s' t' h => ⟨⟨t', rfl⟩, hF s' h⟩⟩) (self_rdy R) (fun _ => rfl) hn
end
end LH

set_option Elab.async false
set_option linter.all false
set_option maxRecDepth 100000
set_option maxHeartbeats 4000000
namespace LO
open PySem PySem.Spec PyProof.Rows L2 L2H Evl LT LG LS LX
/-! ### own objects: fields, methods, items changed -/
theorem get_list {X : Cx} : PGet X (rIxL X.K) := by
  intro pins s σ H x y v u Q I rx ry h
  obtain ⟨p, xs, i, z, rfl, rfl, hq, he, q⟩ := h
  cases rx
  obtain ⟨t, rfl⟩ := ry
  obtain ⟨its, r, pl, hz⟩ := I.list hq
  obtain ⟨j, h1, h2, h3, h4, h5⟩ := atI_get he
  obtain ⟨w, ew, rw'⟩ := r.get h2
  have hl := r.length
  have hn := line63
  have fin : EP X pins σ Q w s := ⟨z, H, I, rw', q⟩
  by_cases h0 : 0 ≤ i
  · have hj : i.toNat = j := by
      rw [seqIndex_of h0 h5] at h1
      exact Option.some.inj h1
    exact wpAny_getItem_list (Q := fun r s' => EP X pins σ Q r s') pl.isList h0 (by omega) (by rw [hj]; simpa using ew) fin
  · have hj : (i + (its.toArray.size : Int)).toNat = j := by
      rw [seqIndex_neg (by omega) h4] at h1
      rw [List.size_toArray, ← hl]
      exact Option.some.inj h1
    exact wpAny_getItem_list_neg (Q := fun r s' => EP X pins σ Q r s') pl.isList (by omega) (by rw [List.size_toArray] <;> omega) (by omega) (by rw [hj]; simpa using ew) fin
/-- o.m(e, ..), what is raised wished for at the slots -/
def tMethA (C : Addr) (m : Str) (sp : Sp) (E : L2.St → XK) (ta : TE) (t : TA) : TE := fun σ H Q => ta σ H fun x H1 => ∃ a dx fs, x = .ref a ∧ H1 a = some (.ins C dx fs) ∧ fs.lookup m = none ∧ t σ H1 fun vs H2 => sp (x :: vs) H2 Q (E σ)
section
variable {X : Cx} {CX : CXT} {k : Nat} {f C : Addr} {fd : FuncData} {ps : List Str} {sp : Sp} {E : L2.St → XK} {m : Str} {pos apos : Pos} {e o : Expr} {es : List Expr} {ta : TE} {t : TA}
theorem pe_methA {pl : Sem Bool} (he : PE X o ta) (c : Cls X.K C) (hm : Meth X.K C m f) (F : FnOk X.prog X.w X.K X.mg X.base CX k f fd ps sp) (hr : Room k X.A) (hb : Binds X.K fd ps []) (hx : ∀ σ, PassesAt CX X σ (E σ)) (ha : PA X (e :: es) t)
    (hst : starEach (e :: es) X.env = (false, eval e X.env) :: starEach es X.env := by rfl) (hpl : (backTo pos (starEach es X.env)).any (·.1) = false := by rfl)
    (ht : eval (.Call (.Attribute o m apos) (e :: es) [] pos) X.env = (do
      let ov ← eval o X.env
      standAt apos.atName
      let (f, first) ← holding [ov] (getMethod ov m pl)
      callWith pos f first (backTo pos (starEach (e :: es) X.env)) (backToKw pos (keywordEach [] X.env))) := by rfl) :
    PE X (.Call (.Attribute o m apos) (e :: es) [] pos) (tMethA C m sp E ta t) := by
  refine ⟨fun pins s σ H Q I h => ?_⟩
  refine PySem.W.methodCall_KW (pl := pl) (thn (he.run pins s σ H _ I h) fun u s1 ⟨x, H1, I1, rx, a, dx, fs, ex, ea, l, q⟩ => ?_) ht
  subst ex
  obtain rfl : u = Value.ref a := rx
  refine getmeth_ok I1 ea c hm l ?_
  refine PySem.W.callWith_K (first := [.ref a]) (h₀ := X.base) I.ok.mod.kin hm.kp (thn (ha.run pos pins s1 σ H1 _ I1 q) fun us s2 ⟨vs, H2, I2, r, q2⟩ => ⟨I2.kIn, ?_⟩) hst hpl
  exact run_fnS (us := .ref a :: us) (vs := .ref a :: vs) F hr hb (hx σ) I2 (.cons rfl r) q2
theorem pe_methA0 {pl : Sem Bool} (he : PE X o ta) (c : Cls X.K C) (hm : Meth X.K C m f) (F : FnOk X.prog X.w X.K X.mg X.base CX k f fd ps sp) (hr : Room k X.A) (hb : Binds X.K fd ps []) (hx : ∀ σ, PassesAt CX X σ (E σ))
    (ht : eval (.Call (.Attribute o m apos) [] [] pos) X.env = (do
      let ov ← eval o X.env
      standAt apos.atName
      let (f, first) ← holding [ov] (getMethod ov m pl)
      callWith pos f first (backTo pos (starEach [] X.env)) (backToKw pos (keywordEach [] X.env))) := by rfl) :
    PE X (.Call (.Attribute o m apos) [] [] pos) (tMethA C m sp E ta tNil) := by
  refine ⟨fun pins s σ H Q I h => ?_⟩
  refine PySem.W.methodCall_KW (pl := pl) (thn (he.run pins s σ H _ I h) fun u s1 ⟨x, H1, I1, rx, a, dx, fs, ex, ea, l, q⟩ => ?_) ht
  subst ex
  obtain rfl : u = Value.ref a := rx
  refine getmeth_ok I1 ea c hm l ?_
  exact PySem.W.callWith_K0 (first := [.ref a]) I1.kIn hm.kp (run_fnS (us := [.ref a]) (vs := [.ref a]) F hr hb (hx σ) I1 (.cons rfl .nil) q)
end
/-! ### a def that is handed the caught exception, within the suite -/
structure FnE (P : Program) (w : World) (K : PySem.W.Frag) (mg : Str → Option Value) (base : Heap) (CX : CXT) (k : Nat) (f : Addr) (fd : FuncData) (ps : List Str) (sp : Addr → Addr → Sp) : Prop where
  len : ∀ D a vs H Q E, sp D a vs H Q E → vs.length = ps.length
  run : ∀ (A : Around) (outer : List Env) (s : Shared) (H : Hp) (args : Args) (us : List Value) (vs : List V) (Q : VK) (E : XK) (p : Addr × Obj) (D : Addr), RoomH k A → Zc (.ref D) none p.2 → (∃ vs, p.2.data = .fields vs) → PinOk outer H s p → Env0 P w K mg base A outer s H → BindsTo s fd args (ps.zip us) → Vals vs us → sp D p.1 vs H Q E →
    codeAny (model P w) A (.call (.ref f) args) (CR CX outer P w H s Q E) s
theorem fn_ofE {CX : CXT} {P : Program} {w : World} {K : PySem.W.Frag} {mg : Str → Option Value} {base : Heap} {k : Nat} {f : Addr} {name qual : Str} {params : Arguments} {body : List Stmt} {scope : Scope} {dV kV doc pm cdv ct oc : Value} {an od : Option Addr}
    {osl : Array (Option Value)} {N ps : List Str} {sp : Addr → Addr → Sp} (lk : K.lookup f = some ⟨oc, od, .func (PySem.W.fnOf name qual params body scope dV kV doc pm an cdv ct), osl⟩) (hcd : PySem.W.codeIn K cdv qual = true) (S : FnScope N ps scope)
    (len : ∀ D a vs H Q E, sp D a vs H Q E → vs.length = ps.length)
    (hbody : ∀ (A : Around) (outer : List Env) (s : Shared) (H : Hp) (vs : List V) (Q : VK) (E : XK) (p : Addr × Obj) (D : Addr), RoomH k (A.deeper (envOfC qual scope s.heap.objs.size f cdv)) → Zc (.ref D) none p.2 → (∃ vs, p.2.data = .fields vs) → sp D p.1 vs H Q E →
      ∃ t, PSs (cxH CX P w K mg base N qual scope f cdv A outer s H E p) body t ∧ t { nx := fun _ H' => Q .non H', rt := Q } (L2.start N vs) H) :
    FnE P w K mg base CX (k + 1) f (PySem.W.fnOf name qual params body scope dV kV doc pm an cdv ct) ps sp := by
  refine ⟨len, fun A outer s H args us vs Q E p D hr hz hf hpin e0 hb r hsp => ?_⟩
  have hl := len _ _ _ _ _ _ hsp
  have KX : K.In s.heap := e0.mod.kin.keeps fun b o e => (e0.bs b o e).1
  have lim : s.heap.NoLimit := e0.mod.nolimit.keeps fun b o e => (e0.bs b o e).1
  have hkind : ∀ y ∈ ps.zip us, scope.names.lookup y.1 = some .local ∨ (scope.names.lookup y.1 = some .cell ∧ ((cellsFrom (s.heap.objs.size + 1) scope.names []).lookup y.1).isSome = true) := fun ⟨n, v⟩ hy => by
    rcases S.par n (List.of_mem_zip hy).1 with q | q
    · exact .inl q
    · exact .inr ⟨q, PySem.W.cellsFrom_some _ _ _ (.inl q)⟩
  refine codeAny_call_function hr.depth (KX _ _ lk) rfl S.co S.gen rfl (PySem.W.codeRec_of KX hcd) (hb _ _ _ _ ?_)
  refine wpAny_newFunctionEnv_cells S.kind hkind fun env he s1 x => ?_
  subst he
  refine ⟨lim.keeps x.toInCall.keep, codeAny_func ?_⟩
  obtain ⟨t, ht, hq⟩ := hbody A outer s H vs Q E p D (hr.deeper _) hz hf hsp
  have I : Inv (cxH CX P w K mg base N qual scope f cdv A outer s H E p) [] (L2.start N vs) H s1 := inv_startH S hpin e0 hl r x
  refine wpAny_mono (ht.run [] s1 (L2.start N vs) H _ I hq) (fun fl s' hs => ?_) fun e s' hs => hs
  have fin : ∀ {σ' : L2.St} {H' : Hp} {v : V} {u : Value}, Inv (cxH CX P w K mg base N qual scope f cdv A outer s H E p) [] σ' H' s' → RelV v u → Q v H' → CE outer P w H s Q u s' :=
    fun {σ' H' v u} J rv q => ⟨v, H', J.os, J.bare, J.base, J.hok, rv, q⟩
  cases fl with
  | ret u =>
    obtain ⟨v, σ', H', J, rv, q⟩ := hs
    exact fin J rv q
  | next =>
    obtain ⟨σ', H', J, q⟩ := hs
    exact fin (v := V.non) (u := Value.none) J rfl q
  | brk =>
    obtain ⟨_, _, _, q⟩ := hs
    exact False.elim q
  | cont =>
    obtain ⟨_, _, _, q⟩ := hs
    exact False.elim q
section
variable {P : Program} {w : World} {K : PySem.W.Frag} {mg : Str → Option Value} {base : Heap}
theorem okE {x qual : Str} {st : Stmt} {f : Addr} {fd : FuncData} {N ps : List Str} {k : Nat} {sp : Addr → Addr → Sp} (F : Fun K x qual st f fd) (S : FnScope N ps (defScope st)) (len : ∀ D a vs H Q E, sp D a vs H Q E → vs.length = ps.length)
    (hbody : ∀ (cdv : Value) (A : Around) (outer : List Env) (s : Shared) (H : Hp) (vs : List V) (Q : VK) (E : XK) (p : Addr × Obj) (D : Addr), RoomH k (A.deeper (envOfC qual (defScope st) s.heap.objs.size f cdv)) → Zc (.ref D) none p.2 → (∃ vs, p.2.data = .fields vs) → sp D p.1 vs H Q E →
      ∃ t, PSs (cxH CX0 P w K mg base N qual (defScope st) f cdv A outer s H E p) (defBody st) t ∧ t { nx := fun _ H' => Q .non H', rt := Q } (L2.start N vs) H) : FnE P w K mg base CX0 (k + 1) f fd ps sp := by
  obtain ⟨oc, od, kV, doc, pm, an, cdv, ct, osl, rfl, lk, hcd⟩ := F.ex
  exact fn_ofE lk hcd S len fun A outer s H vs Q E p D hr hz hf hsp => hbody cdv A outer s H vs Q E p D hr hz hf hsp
end
def tCallE (sp : Addr → Addr → Sp) (cls : Value) (d : Option Addr) (a : Addr) (E : L2.St → XK) (t : TA) : TE := fun σ H Q => t σ H fun vs H1 => ∃ D, cls = .ref D ∧ d = none ∧ sp D a vs H1 Q (E σ)
section
variable {X : Cx} {CX : CXT} {k : Nat} {f : Addr} {fd : FuncData} {ps : List Str} {sp : Addr → Addr → Sp} {E : L2.St → XK} {x : Str} {q pos : Pos} {e : Expr} {es : List Expr} {t : TA} {a : Addr} {oe : Obj} {cls : Value} {d : Option Addr} {pn : List (Addr × Obj)}
theorem pass0E {X : Cx} {σ : L2.St} {E : XK} : PassesAt CX0 X σ E := fun _ _ _ _ _ _ h => h.elim
theorem pe_callE (hz : Zc cls d oe) (hf : ∃ vs, oe.data = .fields vs) (F : FnE X.prog X.w X.K X.mg X.base CX k f fd ps sp) (hr : Room k X.A) (hg : Gl (X.suite a ((a, oe) :: pn)) x) (hm : X.mg x = some (.ref f)) (hk : PySem.W.keepIn X.K (.ref f) = true) (hb : Binds X.K fd ps []) (hx : ∀ σ, PassesAt CX (X.suite a ((a, oe) :: pn)) σ (E σ))
    (ha : PA (X.suite a ((a, oe) :: pn)) (e :: es) t) (hdb : (x == ("__debug__" : Str)) = false := by decide) (he : starEach (e :: es) X.env = (false, eval e X.env) :: starEach es X.env := by rfl) (hpl : (backTo pos (starEach es X.env)).any (·.1) = false := by rfl) :
    PE (X.suite a ((a, oe) :: pn)) (.Call (.Name x q) (e :: es) [] pos) (tCallE sp cls d a E t) := by
  refine ⟨fun pins s σ H Q I h => ?_⟩
  refine wpAny_Call_Name_kw (ld_glob I hg hm ?_ hdb)
  refine PySem.W.callWith_K (h₀ := X.base) I.ok.mod.kin hk (thn (ha.run pos pins s σ H _ I h) fun us s1 ⟨vs, H1, I1, r, q⟩ => ⟨I1.kIn, ?_⟩) he hpl
  obtain ⟨D, rfl, rfl, q⟩ := q
  have hl : us.length = ps.length := by rw [← r.length]; exact F.len _ _ _ _ _ _ q
  have b := hb s1 us I1.kIn (by rw [List.append_nil]; exact hl)
  rw [List.append_nil] at b
  have P1 := I1.pin (a, oe) (List.mem_append_left _ List.mem_cons_self)
  have hpin : PinOk X.stack H1 s1 (a, oe) := ⟨P1.1, P1.2.1, fun hm => (List.mem_cons.mp (I1.stkSub a hm)).elim P1.2.2.1 P1.2.2.2.1, P1.2.2.2.2⟩
  refine wpAny_call (codeAny_mono (F.run _ X.stack s1 H1 ⟨us, []⟩ us vs Q (E σ) (a, oe) D ⟨hr.dp, hr.un⟩ hz hf hpin I1.env0 b r q) fun r s' hq => ?_)
  cases r with
  | error e => exact hx σ pins H1 s1 e s' I1 hq
  | ok fl =>
    cases fl with
    | ret u => exact I1.after hq
    | next => exact False.elim hq
    | brk => exact False.elim hq
    | cont => exact False.elim hq
end
/-- isinstance(e, c), e the exception that is handed in -/
def rIsP (K : PySem.W.Frag) (D a : Addr) : List V → Hp → VK → Prop := fun xs H Q => ExcC K D ∧ rIsE K D a xs H Q
theorem call_isP {X : Cx} {D : Addr} {p : Addr × Obj} (hp : p ∈ X.pn) (hz : Zc (.ref D) none p.2) (hf : ∃ vs, p.2.data = .fields vs) : CallR X (.builtin "isinstance") (rIsP X.K D p.1) := by
  intro pins s σ H xs us Q I r h
  obtain ⟨C, c, cv, b, rfl, hcv, e, q⟩ := h
  cases r with
  | cons rx rr =>
    cases rr with
    | cons rt rr =>
      cases rr
      cases rx
      have ec := hcv _ rt
      subst ec
      obtain ⟨hget, _⟩ := I.pin p (List.mem_append.mpr (.inl hp))
      obtain ⟨vs, hv⟩ := hf
      have J : PySem.W.InstAt s.heap p.1 p.2 D none := by
        obtain ⟨a, oc, od, oda, osl⟩ := p
        obtain ⟨h1, h2⟩ := hz
        dsimp only at h1 h2 hv hget ⊢
        subst h1 h2 hv
        exact ⟨hget, rfl, rfl, trivial⟩
      exact PySem.W.kia_one (PySem.W.handS_kitx_exc C.hg C.hk C.hs C.hd C.ha C.hn C.ht C.hm) I.kIn J e (fun z => nomatch z) fun tk => ⟨.bl b, H, I.kept (t' := tk) fun _ _ z => z, rfl, q⟩
theorem ev_isP {K : PySem.W.Frag} {D a C : Addr} {σ : L2.St} {H : Hp} {ta tb : TE} {b : Bool} (hC : ExcC K D) (h : Ev ta σ H (.ref a)) (hn : Ev tb σ H (.ref C)) (hk : PySem.W.kitOne K (.ref D) (.ref C) = some b) : Ev (tCB (rIsP K D a) (tCons ta (tCons tb tNil))) σ H (.bl b) :=
  ev_cb (ea_cons h (ea_cons hn ea_nil)) fun H1 e Q q => ⟨hC, .ref C, .ref C, b, rfl, fun u hu => hu, hk, q H1 (Ex.refl H1)⟩
/-- isinstance in the suite, the class open -/
def rIsQ (K : PySem.W.Frag) (a : Addr) (cls : Value) (d : Option Addr) : List V → Hp → VK → Prop := fun xs H Q => ∃ D, cls = .ref D ∧ d = none ∧ ExcC K D ∧ rIsE K D a xs H Q
theorem call_isQ {X : Cx} {a : Addr} {oe : Obj} {cls : Value} {d : Option Addr} {pn : List (Addr × Obj)} (hz : Zc cls d oe) (hf : ∃ vs, oe.data = .fields vs) : CallR (X.suite a ((a, oe) :: pn)) (.builtin "isinstance") (rIsQ X.K a cls d) := by
  intro pins s σ H xs us Q I r h
  obtain ⟨D, rfl, rfl, C, h⟩ := h
  exact call_isE C hz hf pins s σ H xs us Q I r h
theorem ev_isQ {K : PySem.W.Frag} {D a C : Addr} {σ : L2.St} {H : Hp} {ta tb : TE} {b : Bool} (hC : ExcC K D) (h : Ev ta σ H (.ref a)) (hn : Ev tb σ H (.ref C)) (hk : PySem.W.kitOne K (.ref D) (.ref C) = some b) : Ev (tCB (rIsQ K a (.ref D) none) (tCons ta (tCons tb tNil))) σ H (.bl b) :=
  ev_cb (ea_cons h (ea_cons hn ea_nil)) fun H1 e Q q => ⟨D, rfl, rfl, hC, .ref C, .ref C, b, rfl, fun u hu => hu, hk, q H1 (Ex.refl H1)⟩
theorem el_is {te : TE} {σ : L2.St} {H : Hp} {xs ys : List V} (h : EvL te σ H xs) (e : xs = ys) : EvL te σ H ys := by
  rw [← e]
  exact h
theorem rv_isN {H : Hp} {x : V} : RV (fun x y H Q => y = .non ∧ Q (.bl (decide (x = .non))) H) x .non H (.bl (decide (x = .non))) := rv_val fun _ _ Q q => ⟨rfl, q⟩
theorem rv_notN {H : Hp} {x : V} : RV (fun x y H Q => y = .non ∧ Q (.bl (!decide (x = .non))) H) x .non H (.bl (!decide (x = .non))) := rv_val fun _ _ Q q => ⟨rfl, q⟩
/-- a call, then a new instance by its __init__ -/
theorem q_make {C : Addr} {sp : Sp} {σ : L2.St} {H : Hp} {t : TA} {vs : List V} {E : XK} {i : Nat} {tz : TS} {D : Ends} (ht : EvA t σ H vs) (k : ∀ p dx H1 H2, H p = none → H1 p = none → Ex H H1 → H2 p = some (.ins C dx []) → Ex H1 H2 → sp (.ref p :: vs) H2 (fun v H3 => v = .non ∧ tz D (σ.set i (some (.ref p))) H3) E) : tSeq (tAsg (tMake C sp [] E t) (gName i)) tz D σ H :=
  ht H (Ex.refl _) _ fun H1 e1 p dx hp hd hne => by
    have h := k p dx H1 (upd (upd H1 dx (.own p)) p (.ins C dx [])) (fresh_back e1 hp) hp e1 upd_same ((Ex.new hd).mut hp)
    rw [show V.ref p :: (vs ++ []) = V.ref p :: vs by rw [List.append_nil]]
    exact h
/-- runs of a call -/
theorem q_run {sp : Sp} {σ : L2.St} {H : Hp} {tr : TA} {vs : List V} {E : XK} {tz : TS} {D : Ends} {i : Nat} (h : EvA tr σ H vs) (k : ∀ H1, Ex H H1 → sp vs H1 (fun v H2 => tz D (σ.set i (some v)) H2) E) : tSeq (tAsg (tCall sp [] E tr) (gName i)) tz D σ H := h H (Ex.refl H) _ fun H1 e => by
    rw [List.append_nil]
    exact k H1 e
/-! ### what fields and methods evaluate to -/
section
variable {K : PySem.W.Frag} {σ : L2.St} {H : Hp} {ta tb te : TE} {t : TA} {v z : V} {C p dx : Addr} {fs : List (Str × V)} {m : Str} {sp : Sp} {vs : List V} {tz : TS} {D : Ends}
theorem ev_fld (ha : Ev ta σ H (.ref p)) (hi : H p = some (.ins C dx fs)) (c : Cls K C) (n : NoAttr K C m) (hl : fs.lookup m = some v) : Ev (tFld K ta m) σ H v := fun H1 e Q q =>
  ha H1 e _ fun H2 e2 => ⟨p, C, dx, fs, v, rfl, e2 _ _ (e _ _ hi), c, n, hl, q H2 e2⟩
theorem ev_meth {E : XK} (ha : Ev ta σ H (.ref p)) (hi : H p = some (.ins C dx fs)) (hl : fs.lookup m = none) (ht : EvA t σ H vs) (hs : SpV sp (.ref p :: vs) H z) : Ev (tMeth C m sp [] E ta t) σ H z := fun H1 e Q q =>
  ha H1 e _ fun H2 e2 => ⟨p, dx, fs, rfl, e2 _ _ (e _ _ hi), hl, ht H2 (e.trans e2) _ fun H3 e3 => by
    rw [List.append_nil]
    exact hs H3 ((e.trans e2).trans e3) Q (fun H4 e4 => q H4 ((e2.trans e3).trans e4)) E⟩
theorem ev_meth0 {E : XK} (ha : Ev ta σ H (.ref p)) (hi : H p = some (.ins C dx fs)) (hl : fs.lookup m = none) (hs : SpV sp [.ref p] H z) : Ev (tMeth C m sp [] E ta tNil) σ H z := ev_meth ha hi hl ea_nil hs
/-- a method that changes something: its own promise, then the rest -/
theorem m_run {E : XK} {Q : VK} (ha : Ev ta σ H (.ref p)) (hi : H p = some (.ins C dx fs)) (hl : fs.lookup m = none) (ht : EvA t σ H vs) (k : ∀ H1, Ex H H1 → sp (.ref p :: vs) H1 Q E) : tMeth C m sp [] E ta t σ H Q :=
  ha H (Ex.refl _) _ fun H2 e2 => ⟨p, dx, fs, rfl, e2 _ _ hi, hl, ht H2 e2 _ fun H3 e3 => by
    rw [List.append_nil]
    exact k H3 (e2.trans e3)⟩
theorem mA_run {E : L2.St → XK} {Q : VK} (ha : Ev ta σ H (.ref p)) (hi : H p = some (.ins C dx fs)) (hl : fs.lookup m = none) (ht : EvA t σ H vs) (k : ∀ H1, Ex H H1 → sp (.ref p :: vs) H1 Q (E σ)) : tMethA C m sp E ta t σ H Q :=
  ha H (Ex.refl _) _ fun H2 e2 => ⟨p, dx, fs, rfl, e2 _ _ hi, hl, ht H2 e2 _ fun H3 e3 => k H3 (e2.trans e3)⟩
theorem q_m {E : XK} (ha : Ev ta σ H (.ref p)) (hi : H p = some (.ins C dx fs)) (hl : fs.lookup m = none) (ht : EvA t σ H vs) (k : ∀ H1, Ex H H1 → sp (.ref p :: vs) H1 (fun _ H2 => tz D σ H2) E) : tSeq (tDrop (tMeth C m sp [] E ta t)) tz D σ H := m_run (Q := fun _ H2 => tz D σ H2) ha hi hl ht k
theorem s_m {E : XK} (ha : Ev ta σ H (.ref p)) (hi : H p = some (.ins C dx fs)) (hl : fs.lookup m = none) (ht : EvA t σ H vs) (k : ∀ H1, Ex H H1 → sp (.ref p :: vs) H1 (fun _ H2 => D.nx σ H2) E) : tDrop (tMeth C m sp [] E ta t) D σ H := m_run (Q := fun _ H2 => D.nx σ H2) ha hi hl ht k
theorem r_m {E : XK} (ha : Ev ta σ H (.ref p)) (hi : H p = some (.ins C dx fs)) (hl : fs.lookup m = none) (ht : EvA t σ H vs) (k : ∀ H1, Ex H H1 → sp (.ref p :: vs) H1 D.rt E) : tRet (tMeth C m sp [] E ta t) D σ H := m_run (Q := D.rt) ha hi hl ht k
theorem q_mA {i : Nat} {E : XK} (ha : Ev ta σ H (.ref p)) (hi : H p = some (.ins C dx fs)) (hl : fs.lookup m = none) (ht : EvA t σ H vs) (k : ∀ H1, Ex H H1 → sp (.ref p :: vs) H1 (fun v H2 => tz D (σ.set i (some v)) H2) E) : tSeq (tAsg (tMeth C m sp [] E ta t) (gName i)) tz D σ H := m_run (Q := fun v H2 => tz D (σ.set i (some v)) H2) ha hi hl ht k
/-- the same in a try's body -/
theorem r_mA {E : L2.St → XK} (ha : Ev ta σ H (.ref p)) (hi : H p = some (.ins C dx fs)) (hl : fs.lookup m = none) (ht : EvA t σ H vs) (k : ∀ H1, Ex H H1 → sp (.ref p :: vs) H1 D.rt (E σ)) : tRet (tMethA C m sp E ta t) D σ H := mA_run (Q := D.rt) ha hi hl ht k
theorem q_mAD {E : L2.St → XK} (ha : Ev ta σ H (.ref p)) (hi : H p = some (.ins C dx fs)) (hl : fs.lookup m = none) (ht : EvA t σ H vs) (k : ∀ H1, Ex H H1 → sp (.ref p :: vs) H1 (fun _ H2 => tz D σ H2) (E σ)) : tSeq (tDrop (tMethA C m sp E ta t)) tz D σ H := mA_run (Q := fun _ H2 => tz D σ H2) ha hi hl ht k
theorem q_mAA {i : Nat} {E : L2.St → XK} (ha : Ev ta σ H (.ref p)) (hi : H p = some (.ins C dx fs)) (hl : fs.lookup m = none) (ht : EvA t σ H vs) (k : ∀ H1, Ex H H1 → sp (.ref p :: vs) H1 (fun v H2 => tz D (σ.set i (some v)) H2) (E σ)) : tSeq (tAsg (tMethA C m sp E ta t) (gName i)) tz D σ H := mA_run (Q := fun v H2 => tz D (σ.set i (some v)) H2) ha hi hl ht k
/-- o.f = e -/
theorem s_fld (hv : Ev te σ H v) (ha : Ev ta σ H (.ref p)) (hi : H p = some (.ins C dx fs)) (c : Cls K C) (n : NoAttr K C m) (hz : fs.length < 1000) (k : ∀ H1, Ex H H1 → D.nx σ (upd H1 p (.ins C dx (putF m v fs)))) : sFld K ta te m D σ H :=
  hv H (Ex.refl _) _ fun H1 e1 => ha H1 e1 _ fun H2 e2 => ⟨p, C, dx, fs, rfl, e2 _ _ (e1 _ _ hi), c, n, hz, k H2 (e1.trans e2)⟩
theorem s_fldL {xs : List V} (hv : EvL te σ H xs) (ha : Ev ta σ H (.ref p)) (hi : H p = some (.ins C dx fs)) (c : Cls K C) (n : NoAttr K C m) (hz : fs.length < 1000) (k : ∀ l H1, H l = none → Ex H H1 → H1 l = some (.lst xs) → D.nx σ (upd H1 p (.ins C dx (putF m (.ref l) fs)))) : sFld K ta te m D σ H :=
  hv H (Ex.refl _) _ fun l H1 hl e1 h1 => ha H1 e1 _ fun H2 e2 => ⟨p, C, dx, fs, rfl, e2 _ _ (e1 _ _ hi), c, n, hz, k l H2 hl (e1.trans e2) (e2 _ _ h1)⟩
theorem q_fld (hv : Ev te σ H v) (ha : Ev ta σ H (.ref p)) (hi : H p = some (.ins C dx fs)) (c : Cls K C) (n : NoAttr K C m) (hz : fs.length < 1000) (k : ∀ H1, Ex H H1 → tz D σ (upd H1 p (.ins C dx (putF m v fs)))) : tSeq (sFld K ta te m) tz D σ H := s_fld (D := { D with nx := tz D }) hv ha hi c n hz k
theorem q_fldL {xs : List V} (hv : EvL te σ H xs) (ha : Ev ta σ H (.ref p)) (hi : H p = some (.ins C dx fs)) (c : Cls K C) (n : NoAttr K C m) (hz : fs.length < 1000) (k : ∀ l H1, H l = none → Ex H H1 → H1 l = some (.lst xs) → tz D σ (upd H1 p (.ins C dx (putF m (.ref l) fs)))) : tSeq (sFld K ta te m) tz D σ H := s_fldL (D := { D with nx := tz D }) hv ha hi c n hz k
/-- xs[j] += e -/
theorem s_augL {f : Int → Int → Int} {l : Addr} {xs : List V} {j : Nat} {a b : Int} (ho : Ev ta σ H (.ref l)) (hi : Ev tb σ H (.int (j : Int))) (hl : H l = some (.lst xs)) (hj : xs[j]? = some (.int a)) (he : Ev te σ H (.int b)) (k : ∀ H1, Ex H H1 → D.nx σ (upd H1 l (.lst (xs.set j (.int (f a b)))))) :
    tAugS ta tb te (rIxL K) (ipI f) rSetL D σ H := ho H (Ex.refl _) _ fun H1 e1 => hi H1 e1 _ fun H2 e2 => ⟨l, xs, (j : Int), .int a, rfl, rfl, sq_of (e2 _ _ (e1 _ _ hl)), atI_nat hj, he H2 (e1.trans e2) _ fun H3 e3 => ⟨a, b, rfl, rfl, l, xs, (j : Int), j, rfl, rfl, e3 _ _ (e2 _ _ (e1 _ _ hl)), ixN_nat (List.getElem?_eq_some_iff.mp hj).1, k H3 ((e1.trans e2).trans e3)⟩⟩
theorem q_augL {f : Int → Int → Int} {l : Addr} {xs : List V} {j : Nat} {a b : Int} (ho : Ev ta σ H (.ref l)) (hi : Ev tb σ H (.int (j : Int))) (hl : H l = some (.lst xs)) (hj : xs[j]? = some (.int a)) (he : Ev te σ H (.int b)) (k : ∀ H1, Ex H H1 → tz D σ (upd H1 l (.lst (xs.set j (.int (f a b)))))) :
    tSeq (tAugS ta tb te (rIxL K) (ipI f) rSetL) tz D σ H := s_augL (D := { D with nx := tz D }) ho hi hl hj he k
end
/-! ### heaps in which the objects of S may change -/
def Fr (S : Addr → Prop) (H H' : Hp) : Prop := ∀ a o, H a = some o → ¬ S a → H' a = some o
theorem Fr.of {S : Addr → Prop} {H H' : Hp} (e : Ex H H') : Fr S H H' := fun a o h _ => e a o h
theorem Fr.trans {S : Addr → Prop} {H H1 H2 : Hp} (e : Fr S H H1) (f : Fr S H1 H2) : Fr S H H2 := fun a o h n => f a o (e a o h n) n
theorem Fr.mut {S : Addr → Prop} {H H' : Hp} {p : Addr} {o : HO} (e : Fr S H H') (h : S p) : Fr S H (upd H' p o) := fun a u ha n => by
  rw [upd_ne fun z => n (by rw [z]; exact h)]
  exact e a u ha n
theorem Fr.fresh {S : Addr → Prop} {H H' : Hp} {p : Addr} (e : Fr S H H') (h : H' p = none) (n : ¬ S p) : H p = none := by
  cases h1 : H p with
  | none => rfl
  | some o =>
    rw [e p o h1 n] at h
    cases h
/-- what H0 has stays, when what changes is none of it -/
theorem Fr.ex {S : Addr → Prop} {H0 H H' : Hp} (e : Ex H0 H) (f : Fr S H H') (n : ∀ a, S a → H0 a = none) : Ex H0 H' := fun a o h => f a o (e a o h) fun s => by
  rw [n a s] at h
  cases h
/-- what is read stands when an instance changes -/
theorem mut_l {K : PySem.W.Frag} {H H1 : Hp} {p C dx a : Addr} {fs fs' : List (Str × V)} {xs : List V} (e : Ex H H1) (hp : H p = some (.ins C dx fs)) (h : SqL K H a xs) : SqL K (upd H1 p (.ins C dx fs')) a xs := by
  rcases h with (h | ⟨o, h⟩) | h
  · exact .inl (.inl (by rw [upd_ne (ne_of h hp (by intro z; cases z))]; exact e _ _ h))
  · exact .inl (.inr ⟨o, by rw [upd_ne (ne_of h hp (by intro z; cases z))]; exact e _ _ h⟩)
  · exact .inr h
theorem mut_t {K : PySem.W.Frag} {H H1 : Hp} {p C dx a : Addr} {fs fs' : List (Str × V)} {xs : List V} (e : Ex H H1) (hp : H p = some (.ins C dx fs)) (h : SqT K H a xs) : SqT K (upd H1 p (.ins C dx fs')) a xs := by
  rcases h with (h | ⟨o, h⟩) | h
  · exact .inl (.inl (by rw [upd_ne (ne_of h hp (by intro z; cases z))]; exact e _ _ h))
  · exact .inl (.inr ⟨o, by rw [upd_ne (ne_of h hp (by intro z; cases z))]; exact e _ _ h⟩)
  · exact .inr h
/-- list(a tuple) -/
theorem el_listT {K : PySem.W.Frag} {σ : L2.St} {H : Hp} {ta : TE} {p : Addr} {xs : List V} (ha : Ev ta σ H (.ref p)) (h : SqT K H p xs) : EvL (tCB (rListS K) (tCons ta tNil)) σ H xs := fun H1 e Q q =>
  ha H1 e _ fun H2 e2 => ⟨p, xs, rfl, Or.inr (ex_t (e.trans e2) h), fun l hl => q l _ (fresh_back e2 hl) (e2.trans (Ex.new hl)) upd_same⟩
/-! ### comprehensions over two lists at once -/
theorem el_lcZ {K : PySem.W.Frag} {σ : L2.St} {H : Hp} {a b : Addr} {xs ys : List V} {t : TA} {tt : TT} {te : TE} {i j : Nat} {vs : List Nat} (f : Nat → Bool) (v : Nat → V) (h : EvA t σ H [.ref a, .ref b]) (hx : SqL K H a xs) (hy : SqL K H b ys) (hlen : xs.length = ys.length) (hz : xs.length ≤ 40000)
    (hw : ∀ x y, wipe (((wipe σ vs).set i (some x)).set j (some y)) vs = wipe σ vs)
    (ht : ∀ (n : Nat) (x y : V) H1, Ex H H1 → xs[n]? = some x → ys[n]? = some y → EvT tt (((wipe σ vs).set i (some x)).set j (some y)) H1 (f n)) (he : ∀ (n : Nat) (x y : V) H1, Ex H H1 → xs[n]? = some x → ys[n]? = some y → f n = true → Ev te (((wipe σ vs).set i (some x)).set j (some y)) H1 (v n)) :
    EvL (tLc (iZip K t) (gTup K 2 (gCons (gName i) (gCons (gName j) gNil))) tt te vs) σ H (given xs.length f v) := fun H0 e Q q => h H0 e _ fun H1 e1 => ⟨a, b, xs, ys, rfl, ex_l (e.trans e1) hx, ex_l (e.trans e1) hy, fun Dl hD =>
  lc_it (walk_zip (K := K) (a := a) (b := b) (xs := xs) (ys := ys) (n := xs.length) (by omega)) (Cw H1 f v Dl) ⟨hD, Ex.new hD, upd_same⟩ (fun i H' _ p => ⟨ex_l ((e.trans e1).trans p.2.1) hx, ex_l ((e.trans e1).trans p.2.1) hy⟩)
    (fun n z H2 H2' hn p y => by
      obtain ⟨T, x1, y1, rfl, hT, rfl, h1, h2⟩ := y
      have p' : Cw H1 f v Dl n (upd H2 T (.tup [x1, y1])) := ⟨p.1, p.2.1.trans (Ex.new hT), (Ex.new hT) _ _ p.2.2⟩
      have e2 := ((e.trans e1).trans p'.2.1)
      refine ⟨T, _, rfl, st_of upd_same, rfl, _, _, rfl, _, _, rfl, rfl, hw x1 y1, cw_turn (H := H1) p' (by omega) ?_ ?_⟩
      · exact ht n x1 y1 H1 (e.trans e1) h1 h2
      · exact fun hf => he n x1 y1 H1 (e.trans e1) h1 h2 hf)
    (fun H' p => q Dl H' (fresh_back e1 p.1) (e1.trans p.2.1) p.2.2)⟩
end LO

set_option Elab.async false
set_option linter.all false
set_option maxRecDepth 100000
set_option maxHeartbeats 4000000
namespace LN
open PySem PySem.Spec PyProof.Rows L2 Evl LT LG LS LQ
section
variable {X : Cx} {σ : L2.St} {H : Hp} {P : Addr} {scope : Scope} {x : Str} {u : Value} {a b c : Expr} {za zb zc z : V} {pos p : Pos}
theorem qv_ixL {l : Addr} {xs : List V} {i : Int} (hT : Tab H P) (hq : SqL X.K H l xs) (he : atI xs i = some z) (h0 : 0 ≤ i) (ha : QV X σ H P scope x u a (.ref l)) (hb : QV X σ H P scope x u b (.int i)) (hs : PlainIx b := by intro _ _; rfl) : QV X σ H P scope x u (.Subscript a b pos) z := fun cenv A' E' s m F =>
  Subscript_ (qv_two (f := fun v w => subscriptTail a b v w) ha hb (fun cenv A' E' s2 m2 v w F2 r1 r2 => by
    cases r1
    obtain ⟨t, rfl⟩ := r2
    obtain ⟨its, r, pl, hz⟩ := F2.list hT hq
    obtain ⟨j, h1, h2, h3, h4, h5⟩ := atI_get he
    obtain ⟨w', ew, rw'⟩ := r.get h2
    have hl := r.length
    have hn := line63
    have hj : i.toNat = j := by
      rw [seqIndex_of h0 h5] at h1
      exact Option.some.inj h1
    exact item_listR pl.isList h0 (by omega) (by rw [hj]; simpa using ew) ⟨rw', kp_refl _⟩ (hs _ _)) cenv A' E' s m F)
theorem qv_ixT {l : Addr} {xs : List V} {i : Int} (hT : Tab H P) (hq : SqT X.K H l xs) (he : atI xs i = some z) (ha : QV X σ H P scope x u a (.ref l)) (hb : QV X σ H P scope x u b (.int i)) (hs : PlainIx b := by intro _ _; rfl) : QV X σ H P scope x u (.Subscript a b pos) z := fun cenv A' E' s m F =>
  Subscript_ (qv_two (f := fun v w => subscriptTail a b v w) ha hb (fun cenv A' E' s2 m2 v w F2 r1 r2 => by
    cases r1
    obtain ⟨t, rfl⟩ := r2
    obtain ⟨its, r, pl, hz⟩ := F2.tuple hT hq
    obtain ⟨j, h1, h2, h3, h4, h5⟩ := atI_get he
    obtain ⟨w', ew, rw'⟩ := r.get h2
    have hl := r.length
    have hn := line63
    exact subscriptTail_builtinR (x := w') pl.typeIs slot_tuple_getitem.lookup
      (getItem_tuple (j := j) (Q := fun r s' => r = w' ∧ (RelV z r ∧ Keeps s2 s')) pl (by omega) (by omega) (by rw [List.size_toArray, ← hl]; exact h1) (by simpa using ew) ⟨rfl, rw', kp_refl _⟩) (hs _ _)) cenv A' E' s m F)
theorem qr_ltT {l r : Addr} {ns ms : List Int} (hT : Tab H P) (hu : X.A.units + 8 < cLine) (ha : SqT X.K H l (ns.map V.int)) (hb : SqT X.K H r (ms.map V.int)) : QR X σ H P scope x u (compareOp .Lt) (.ref l) (.ref r) (.bl (HT.lexLt ns ms)) := fun cenv A' E' s m v w F r1 r2 => by
  cases r1
  cases r2
  obtain ⟨its, r1, p1, _⟩ := F.tuple hT ha
  obtain ⟨its2, r2, p2, _⟩ := F.tuple hT hb
  have i1 : IntsAre its.toArray.toList ns := intsAre_of r1
  have i2 : IntsAre its2.toArray.toList ms := intsAre_of r2
  exact HT.lt_tupInts p1 p2 i1 i2 (Nat.lt_of_le_of_lt F.un hu) ⟨rfl, kp_refl _⟩
theorem qr_lt_int {i j : Int} : QR X σ H P scope x u (compareOp .Lt) (.int i) (.int j) (.bl (decide (i < j))) := fun cenv A' E' s m v w F r1 r2 => by
  obtain ⟨t, rfl⟩ := r1
  obtain ⟨t', rfl⟩ := r2
  exact lt_int ⟨rfl, kp_refl _⟩
theorem qv_chain {op op' : CmpOp} {f g : Bool} (hr : QR X σ H P scope x u (compareOp op) za zb (.bl f)) (hr' : QR X σ H P scope x u (compareOp op') zb zc (.bl g)) (ha : QV X σ H P scope x u a za) (hb : QV X σ H P scope x u b zb) (hc : QV X σ H P scope x u c zc)
    (hm : lastMarks [op, op'] [b, c] = false := by with_unfolding_all rfl) : QV X σ H P scope x u (.Compare a [op, op'] [b, c] pos) (.bl (f && g)) := fun cenv A' E' s m F => by
  refine Compare_chain (wpAny_mono (ha cenv A' E' s m F) (fun v s1 r1 => chain_link (wpAny_mono (hb cenv A' E' s1 m (F.keeps r1.2)) (fun w s2 r2 => wpAny_mono (hr cenv A' E' s2 m v w ((F.keeps r1.2).keeps r2.2) r1.1 r2.1) (fun d s3 r3 => ?_) fun _ _ e => e) fun _ _ e => e)) fun _ _ e => e) hm
  obtain ⟨rfl, k3⟩ := r3
  have k := kp_trans (kp_trans r1.2 r2.2) k3
  refine wpAny_truthy_bool ?_
  cases f with
  | false => exact ite_ff ⟨rfl, k⟩
  | true => exact ite_tt (chain_last (wpAny_mono (hc cenv A' E' s3 m (F.keeps k)) (fun y s4 r4 => wpAny_mono (hr' cenv A' E' s4 m w y ((F.keeps k).keeps r4.2) r2.1 r4.1) (fun e s5 r5 => ⟨r5.1, kp_trans (kp_trans k r4.2) r5.2⟩) fun _ _ e => e) fun _ _ e => e))
/-- an own def of one argument, a pair that it unpacks; it returns one test of each part -/
theorem qv_call2 {nm pn qual ya yb : Str} {st : Stmt} {f : Addr} {fd : FuncData} {N : List Str} {e1 e2 : Expr} {py1 py2 tp np ap bp rp : Pos} {kt k : Nat} {t : Addr} {v1 v2 : V} {c1 c2 : Bool} (hr : Room k X.A) (hT : Tab H P) (hk : scope.kind = .function) (hl : scope.names.lookup nm = some .globalImplicit) (hm : X.mg nm = some (.ref f)) (F : Fun X.K nm qual st f fd)
    (hbody : defBody st = [.Assign [.Tuple [.Name ya py1, .Name yb py2] kt tp] (.Name pn np) ap, .Return (some (.BoolOp .And [e1, e2] bp)) rp]) (S : FnScope N [pn] (defScope st)) (hloc : (defScope st).names.lookup pn = some .local) (hla : (defScope st).names.lookup ya = some .local) (hlb : (defScope st).names.lookup yb = some .local) (hab : ya ≠ yb)
    (hb : Binds X.K fd [pn] []) (ha : QV X σ H P scope x u a (.ref t)) (ht : SqT X.K H t [v1, v2])
    (h1 : ∀ (A0 : Around) (v : Value), RelV v1 v → QV { X with A := A0 } σ H P (defScope st) ya v e1 (.bl c1)) (h2 : ∀ (A0 : Around) (v : Value), RelV v2 v → QV { X with A := A0 } σ H P (defScope st) yb v e2 (.bl c2))
    (hs : ∀ env, starEach [a] env = (false, eval a env) :: starEach [] env := by intro _; rfl) (hd : (nm == ("__debug__" : Str)) = false := by decide) (hdp : (pn == ("__debug__" : Str)) = false := by decide) :
    QV X σ H P scope x u (.Call (.Name nm p) [a] [] pos) (.bl (c1 && c2)) := fun cenv A' E' s m Fc0 => by
  refine wpAny_Call_Name_kw (Calls.Name_function_global (by rw [Fc0.sc]; exact hk) (show cenv.scope.names.lookup nm = some .globalImplicit by rw [Fc0.sc]; exact hl) (Calls.loadGlobal_global (by rw [Fc0.gl]; exact Fc0.md.glob.keeps Fc0.base) hm ?_) hd)
  refine PySem.W.callWith_K (h₀ := X.base) Fc0.md.kin F.kp ?_ (hs cenv) (by rfl)
  rw [hs cenv]
  show wpAny _ _ (spliced ((false, eval a cenv) :: [])) _ _ s
  refine Calls.spliced_cons (wpAny_mono (ha cenv A' E' s m Fc0) (fun v s1 r1 => Calls.spliced_nil ?_) fun _ _ e => e)
  have F1 := Fc0.keeps r1.2
  refine ⟨F1.kin, ?_⟩
  obtain ⟨oc, od, kV, doc, pm, an, cdv, ct, osl, rfl, lk, hcd⟩ := F.ex
  have rv := r1.1
  refine wpAny_call (Att.call_fn (binds := [(pn, v)]) F1.kin (F1.md.nolimit.keeps F1.base) lk hcd (by have := hr.dp; have := Fc0.dp; omega) (hb s1 [v] F1.kin rfl) ?_ (fun s2 IC => ?_) S.co S.gen S.kind)
  · simp only [List.all_cons, List.all_nil, Bool.and_true, Bool.or_eq_true, beq_iff_eq]
    exact .inl hloc
  · obtain ⟨h2', tk2, rfl⟩ := IC.toInCall.same
    have kk : ∀ b o, s1.heap.get? b = some o → h2'.get? b = some o := IC.toInCall.keep
    rw [hbody]
    have Fn : Fc { X with A := A' } σ H P (defScope st) pn v (envOfC qual (defScope st) s1.heap.objs.size f cdv) (A'.deeper (envOfC qual (defScope st) s1.heap.objs.size f cdv)) { s1 with heap := h2', toks := tk2 } _ :=
      ⟨Fc0.hd, Nat.le_refl _, by show A'.units + 3 ≤ A'.units + 8; omega, rfl, rfl, rfl, IC.toInCall.ns, by
        show bindL _ [(pn, v)] _ pn = some v
        unfold bindL
        have hkd : (envOfC qual (defScope st) s1.heap.objs.size f cdv).kindOf pn = some .local := hloc
        rw [hkd]
        simp [bindL], fun b o e => kk b o (F1.base b o e), F1.md, F1.hok.kept kk, fun i y w h1 h2 h3 h4 => absurd rfl (S.nofree (y, .free) (lookup_mem' h4))⟩
    cases rv
    obtain ⟨its, ri, tup, _⟩ := Fn.tuple hT ht
    cases ri with
    | cons ra rr =>
      rename_i w1 wr
      cases rr with
      | cons rb rn =>
        rename_i w2 wn
        cases rn
        refine wpAny_execs_cons (Assign_Tuple (wpAny_mono (qv_x (X := { X with A := A' }) S.kind hloc (show RelV (.ref t) (.ref t) from rfl) hdp _ _ _ _ _ Fn) (fun y s3 r3 => ?_) fun _ _ e => e))
        obtain ⟨ry, h3, tk3, rfl, k3⟩ := r3
        cases ry
        refine assign_Tuple_tuple Fn.hd (tup.keeps k3) (by rfl) (by rfl) fun h4 hx4 => ?_
        have kL : ∀ b o, s1.heap.get? b = some o → b ≠ s1.heap.objs.size := fun b o e => Nat.ne_of_lt (Heap.lt_size e)
        have kx : ∀ b o, h3.get? b = some o → h4.get? b = some o := fun b o e => hx4 b o (Nat.ne_of_lt (Heap.lt_size e)) e
        have n4 := ((Fn.keeps ⟨h3, tk3, rfl, k3⟩).keeps (s₃ := { s1 with heap := h4, toks := tk3 }) ⟨h4, tk3, rfl, kx⟩).ns
        refine assignInOrder_cons (assign_Name (wpAny_storeName_local hla n4 (fun h5 n5 b5 => ?_) (by simp [envOfC, S.kind])))
        refine assignInOrder_cons (assign_Name (wpAny_storeName_local hlb n5 (fun h6 n6 b6 => ?_) (by simp [envOfC, S.kind])))
        refine assignInOrder_nil ?_
        have k6 : ∀ b o, s1.heap.get? b = some o → h6.get? b = some o := fun b o e => b6.extBut b o (kL b o e) (b5.extBut b o (kL b o e) (kx b o (k3 b o (kk b o e))))
        have FF : ∀ (y : Str) (w : Value), (if y = yb then some w2 else if y = ya then some w1 else none) = some w → Fc { X with A := A' } σ H P (defScope st) y w (envOfC qual (defScope st) s1.heap.objs.size f cdv) (A'.deeper (envOfC qual (defScope st) s1.heap.objs.size f cdv)) { s1 with heap := h6, toks := tk3 + 1 + 1 } _ := fun y w e => by
          refine ⟨Fc0.hd, Nat.le_refl _, (by show A'.units + 3 ≤ A'.units + 8; omega), rfl, rfl, rfl, n6, ?_, fun b o e => k6 b o (F1.base b o e), F1.md, F1.hok.kept k6, fun i y w h1 h2 h3 h4 => absurd rfl (S.nofree (y, .free) (lookup_mem' h4))⟩
          show (if y = yb then some w2 else if y = ya then some w1 else _) = some w
          by_cases q1 : y = yb
          · rw [if_pos q1] at e ⊢
            exact e
          · rw [if_neg q1] at e ⊢
            by_cases q2 : y = ya
            · rw [if_pos q2] at e ⊢
              exact e
            · rw [if_neg q2] at e
              cases e
        refine wpAny_execs_cons (wpAny_Return_some (BoolOp_and (wpAny_mono (h1 A' w1 ra _ _ _ _ _ (FF ya w1 (by rw [if_neg hab, if_pos rfl]))) (fun y s7 r7 => ?_) fun _ _ e => e)))
        obtain ⟨rfl, k7⟩ := r7
        refine wpAny_truthy_bool ?_
        have kA := kp_trans r1.2 (kp_trans (s1 := { s1 with heap := h6, toks := tk3 + 1 + 1 }) ⟨h6, _, rfl, k6⟩ k7)
        cases c1 with
        | true => exact BoolOp_one (wpAny_mono (h2 A' w2 rb _ _ _ _ _ ((FF yb w2 (if_pos rfl)).keeps k7)) (fun y s8 r8 => ⟨r8.1, kp_trans kA r8.2⟩) fun _ _ e => e)
        | false => exact ⟨rfl, kA⟩
end
/-! ### a list of pairs is walked -/
def SrcT (K : PySem.W.Frag) (H : Hp) (v : V) (n : Nat) (xs : Nat → V) : Prop := ∃ (a : Addr) (l : List V), v = .ref a ∧ SqL K H a l ∧ n = l.length ∧ ∀ i, i < n → ∃ (T : Addr) (y : V), l[i]? = some (.ref T) ∧ SqT K H T [y, xs i]
section
variable {X : Cx} {pins : List (Addr × Obj)} {σ : L2.St} {H : Hp} {s : Shared}
theorem src_iterT {v : V} {xv : Value} {n : Nat} {xs : Nat → V} {P : Addr} {Q : Value → Shared → Prop} {E : Value → Shared → Prop} (S : SrcT X.K H v n xs) (I : Inv X pins σ H s) (r : RelV v xv) (hT : Tab H P)
    (h : ∀ (o : Obj) (fp : List Addr) (Pf : Nat → Array Value → Prop) (St : Nat → Heap → Prop) (Mid : Nat → Addr → Heap → Prop), (∀ i va vb, Pf i #[va, vb] → i < n ∧ RelV (xs i) vb) → (∀ A' : Around, A'.handled = none → WalksU X.prog X.w A' s.heap.objs.size fp [s.heap.objs.size] n Pf St Mid) → (∀ i vals, Pf i vals → ∃ va vb, vals = #[va, vb]) →
      St 0 (s.heap.push o) → (∀ b ∈ fp, b ≤ s.heap.objs.size ∧ b ≠ P) → Q (.ref s.heap.objs.size) { s with heap := s.heap.push o }) : wpAny (model X.prog X.w) X.A (pyIter xv) Q E s := by
  have Plt : P < s.heap.objs.size := Heap.lt_size (hT.of_ok I.hok).choose_spec.1
  have szP : s.heap.objs.size ≠ P := fun z => Nat.lt_irrefl _ (z ▸ Plt : s.heap.objs.size < s.heap.objs.size)
  obtain ⟨a, l, rfl, hl, rfl, hx⟩ := S
  cases r
  obtain ⟨its, rv, pl, _⟩ := I.list hl
  have hal : a < s.heap.objs.size := let ⟨_, e, _⟩ := pl.isList; Heap.lt_size e
  have naP : a ≠ P := fun e => by
    obtain ⟨ps, e1, _⟩ := hT.of_ok I.hok
    obtain ⟨o, n, e2, e3, _, e4⟩ := pl
    rw [e, e1] at e2
    cases e2
    cases e3
  have hne : a ≠ s.heap.objs.size := Nat.ne_of_lt hal
  have en : its.toArray.size = l.length := by rw [List.size_toArray]; exact rv.length.symm
  have ev : ∀ i : Nat, ∃ (T : Addr) (va vb : Value), i < l.length → its.toArray[i]? = some (.ref T) ∧ IsTup s.heap T #[va, vb] ∧ RelV (xs i) vb := fun i => by
    by_cases hi : i < l.length
    · obtain ⟨T, y, e1, e2⟩ := hx i hi
      obtain ⟨w, ew, rw'⟩ := rv.get e1
      cases rw'
      obtain ⟨js, rj, tj, _⟩ := I.tuple e2
      cases rj with
      | cons ra rr =>
        rename_i w1 wr
        cases rr with
        | cons rb rn =>
          rename_i w2 wn
          cases rn
          exact ⟨T, w1, w2, fun _ => ⟨by simpa using ew, tj, rb⟩⟩
    · exact ⟨0, .none, .none, fun h => absurd h hi⟩
  refine wpAny_pyIter_list pl.isList ?_
  let Ts : Nat → Addr := fun i => (ev i).choose
  let va : Nat → Value := fun i => (ev i).choose_spec.choose
  let vb : Nat → Value := fun i => (ev i).choose_spec.choose_spec.choose
  have sp : ∀ i, i < l.length → its.toArray[i]? = some (.ref (Ts i)) ∧ IsTup s.heap (Ts i) #[va i, vb i] ∧ RelV (xs i) (vb i) := fun i => (ev i).choose_spec.choose_spec.choose_spec
  have tlt : ∀ i, i < l.length → Ts i < s.heap.objs.size := fun i hi => (sp i hi).2.1.lt
  have tnP : ∀ i, i < l.length → Ts i ≠ P := fun i hi e => by
    obtain ⟨ps, e1, _⟩ := hT.of_ok I.hok
    obtain ⟨o, e2, e3, _⟩ := (sp i hi).2.1
    rw [e, e1] at e2
    cases e2
    cases e3
  refine h _ (s.heap.objs.size :: a :: (List.range its.toArray.size).map Ts) (fun j v => j < l.length ∧ v = #[va j, vb j]) (fun j h => h.IsListIter s.heap.objs.size a j ∧ h.IsList a its.toArray ∧ ∀ k, k < its.toArray.size → h.IsTuple (Ts k) #[va k, vb k]) (fun j T h => (j < its.toArray.size ∧ T = Ts j) ∧ h.IsListIter s.heap.objs.size a (j + 1) ∧ h.IsList a its.toArray ∧ ∀ k, k < its.toArray.size → h.IsTuple (Ts k) #[va k, vb k]) (fun i wa wb hp => ?_) (fun A' hA => ?_) (fun i vals hp => ⟨_, _, hp.2⟩) ⟨⟨_, Heap.get?_push_size _ rfl, rfl, rfl⟩, pl.isList.at fun o e => Heap.get?_push_of_some _ e, fun k hk => ?_⟩ fun b hb => ?_
  · obtain ⟨hi, e⟩ := hp
    have e2 : wb = vb i := (by simpa using congrArg Array.toList e : wa = va i ∧ wb = vb i).2
    rw [e2]
    exact ⟨hi, (sp i hi).2.2⟩
  · have W := WalksU.listOfTuples (prog := X.prog) (w := X.w) hA s.heap.objs.size a hne its.toArray Ts (fun i => #[va i, vb i]) (fun j hj => (sp j (by rw [← en]; exact hj)).1) (fun j hj => Nat.ne_of_lt (tlt j (by rw [← en]; exact hj)))
    rw [← en]
    exact ⟨W.sub, W.frame, fun i s Q E hi st hQ => W.item i s Q E hi st fun T vals h' tk hv => hQ T vals h' tk ⟨hi, hv⟩, W.go, W.apart, W.done, W.self⟩
  · exact Heap.IsTuple.at ((sp k (by rw [← en]; exact hk)).2.1) fun o e => Heap.get?_push_of_some _ e
  · rcases List.mem_cons.mp hb with e | hb
    · rw [e]
      exact ⟨Nat.le_refl _, szP⟩
    · rcases List.mem_cons.mp hb with e | hb
      · rw [e]
        exact ⟨Nat.le_of_lt hal, naP⟩
      · obtain ⟨i, hi, rfl⟩ := List.mem_map.mp hb
        have hi' : i < l.length := by rw [← en]; exact List.mem_range.mp hi
        exact ⟨Nat.le_of_lt (tlt i hi'), tnP i hi'⟩
theorem gen_makeT {c P : Addr} {elt iter : Expr} {xa x : Str} {pa px pt gpos : Pos} {kt : Nat} {scope : Scope} {te : TE} {k : Nat} {Q' : Value → Shared → Prop} {R : Nat → (Nat → Bool) → Hp → Prop}
    (hr : Room k X.A) (TB : LamX.TabB X.base X.mg c P) (hcode : X.env.code = .ref c) (S : GxR.GenS X.env scope x) (hxa : scope.names.lookup xa = some .local) (hab : xa ≠ x) (hi : PE X iter te) (hs : ∀ v, genFold iter X.env v = pure v) (I : Inv X pins σ H s)
    (h : te σ H fun v H1 => Tab H1 P ∧ ∃ (n : Nat) (xs : Nat → V) (f : Nat → Bool), SrcT X.K H1 v n xs ∧ (∀ i u, i < n → RelV (xs i) u → QV X σ H1 P scope x u elt (.bl (f i))) ∧ R n f H1)
    (hQ : ∀ n f H1 g s5, R n f H1 → RdyG X pins σ H1 n f g s5 → Q' (.ref g) s5) :
    wpAny (model X.prog X.w) X.A (eval (.GeneratorExp elt [⟨.Tuple [.Name xa pa, .Name x px] kt pt, iter, [], 0⟩] scope gpos) X.env) Q' X.xe s := by
  refine wpAny_GeneratorExp_walksQTD hr.hd S.co (closure_ok S.free) S.cell S.dot hxa S.loc hab S.kind hr.depth ?_ hs
  refine thn (hi.run pins s σ H _ I h) fun xv s1 ⟨v, H1, I1, r1, hT, n, xs, f, hsrc, hel, hR⟩ => ?_
  refine src_iterT hsrc I1 r1 hT fun o fp Pf St Mid hPf hW hsz2 hst hfp => ?_
  obtain ⟨ps, hPs, ht⟩ := hT.of_ok I1.hok
  have hPlt : P < s1.heap.objs.size := Heap.lt_size hPs
  have hP2 : (s1.heap.push o).get? P = some { cls := .none, data := .fields ps } := Heap.get?_push_of_some _ hPs
  have cd : PySem.W.CodeHd (s1.heap.push o) c P := TB.code.keeps fun b u e => Heap.get?_push_of_some _ (I1.bk b u e)
  have lim2 : (s1.heap.push o).NoLimit := I1.nolimit.push o
  have hcP : cStatics ≠ P := fun e => by
    obtain ⟨_, ⟨o', es, ep, ho, hd, _⟩, _⟩ := I1.nolimit
    rw [e, hPs] at ho
    cases ho
    cases hd
  have hcl : cStatics < s1.heap.objs.size := let ⟨_, hns, _⟩ := I1.nolimit; hns.lt
  have sz2 : (s1.heap.push o).objs.size = s1.heap.objs.size + 1 := Heap.size_push ..
  have nTb : ∀ b, H1 b = none → b ≠ P := fun b e z => by
    rw [z, hT] at e
    cases e
  -- what is left once the code object is known
  have go : ∀ (code : Value) (h3 : Heap) (tk : Nat) (ps' : Array Value), Heap.ExtBut P (s1.heap.push o) h3 → (s1.heap.push o).objs.size ≤ h3.objs.size → h3.get? P = some { cls := .none, data := .fields ps' } → TriplesOk ps'.toList →
      wpAny (model X.prog X.w) X.A (builtinsFor X.env.globals X.env.builtins) (fun bi s₄ => ∃ I fp wr n₀ Pg St₀ Mid pz F, Value.ref s1.heap.objs.size = .ref I ∧ (∀ A' : Around, A'.handled = none → WalksU X.prog X.w A' I fp wr n₀ Pg St₀ Mid) ∧ (∀ i vals, Pg i vals → ∃ va vb, vals = #[va, vb]) ∧ St₀ 0 s₄.heap ∧ (∀ b ∈ fp, b < s₄.heap.objs.size) ∧ s₄.heap.NoLimit ∧ cStatics ∉ wr ∧
          (∀ href : Heap, (∀ b o, s₄.heap.get? b = some o → href.get? b = some o) → QuietGenTD X.prog X.w (genEnv scope (cloFrom X.env.cells scope.names []) s₄.heap.objs.size code bi X.env) xa x [] elt (List.range s₄.heap.objs.size) wr Pg pz F href (X.A.depth + 1) (X.A.units + 8)) ∧
          (∀ a h₅ tk gs, gs.bare = true → s₄.heap.objs.size < a → h₅.objs.size = a + 1 → (∀ b o, s₄.heap.get? b = some o → h₅.get? b = some o) →
            WalksS X.prog X.w X.A.in4 a (a :: s₄.heap.objs.size :: List.range s₄.heap.objs.size) (s₄.heap.objs.size :: wr) (GenOnlyQ s₄.gens.size) (passing pz n₀ 0).length (fun j y => ∃ i, (passing pz n₀ 0)[j]? = some i ∧ F i y) (GenAt X.prog X.w X.A.in4 a s₄.gens.size s₄.heap.objs.size (List.range s₄.heap.objs.size) wr pz n₀ F) →
            GenAt X.prog X.w X.A.in4 a s₄.gens.size s₄.heap.objs.size (List.range s₄.heap.objs.size) wr pz n₀ F 0 { s₄ with gens := s₄.gens.push gs, toks := tk, heap := h₅ } →
            Q' (.ref a) { s₄ with gens := s₄.gens.push gs, toks := tk, heap := h₅ })) X.xe { s1 with heap := h3, toks := tk } := by
    intro code h3 tk ps' hx hsz hP3 ht3
    obtain ⟨bm, ob, e1, e2, e3, e4, e5, e6, e7, e8⟩ := TB.bm
    have keep3 : ∀ b u, b ≠ P → s1.heap.get? b = some u → h3.get? b = some u := fun b u hb e => hx b u hb (Heap.get?_push_of_some _ e)
    refine wpAny_builtinsFor (m := X.mg) (by rw [I1.ok.glob]; exact ((I1.mod.glob.keeps I1.bk).push o).extBut hx TB.gP) e1 e2 (keep3 _ _ e4 (I1.bk _ _ e5)) e6 e7 e8 ?_
    have hsz3 : s1.heap.objs.size < h3.objs.size := by omega
    refine ⟨s1.heap.objs.size, fp, [s1.heap.objs.size], n, Pf, St, Mid, fun _ => true, fun i y => y = .bool (f i), rfl, hW, hsz2, ?_, fun b hb => Nat.lt_of_le_of_lt (hfp b hb).1 hsz3, lim2.extBut hx hcP, ?_, ?_, ?_⟩
    · exact (hW X.A hr.hd).frame _ _ _ hst fun b hb u e => hx b u (hfp b hb).2 e
    · intro z
      rw [List.mem_singleton.mp z] at hcl
      exact Nat.lt_irrefl _ hcl
    · intro href hhref
      refine ⟨fun A' E' i va v s₂ m₂ hA hD hU hPv hn hma hm hk => ?_, fun A' E' i va v s₂ m₂ hA hD hU hPv hp hn hma hm hk => ?_⟩
      · simp only [List.forIn_nil]
        exact wpAny_pure ⟨rfl, kp_refl _⟩
      · have kept : ∀ b u, b ≠ P → s1.heap.get? b = some u → s₂.heap.get? b = some u := fun b u hb e => by
          have hlt := Heap.lt_size e
          refine hk b (List.mem_range.mpr ?_) (fun z => ?_) u (hhref b u (keep3 b u hb e))
          · show b < h3.objs.size
            exact Nat.lt_trans hlt hsz3
          · rw [List.mem_singleton.mp z] at hlt
            exact Nat.lt_irrefl _ hlt
        refine wpAny_mono (hel i v (hPf i va v hPv).1 (hPf i va v hPv).2 _ A' E' s₂ m₂ ⟨hA, hD, hU, rfl, I1.ok.glob, rfl, hn, hm, fun b u e => kept b u (nTb b (I1.bs b u e).2) (I1.bk b u e), I1.mod, fun b u e => ?_, fun j y w hN hσ hv hfr => ?_⟩) (fun y s3 r => ⟨r.1, r.2⟩) fun _ _ e => e
        · have hb : b ≠ P := fun z => by
            rw [z] at e
            unfold but at e
            rw [if_pos rfl] at e
            cases e
          rw [but_ne hb] at e
          refine (I1.hok b u e).stay (fun d w hd q => kept d w ?_ q) (fun d q => ?_) fun d ys q => ?_
          · rcases hd with z | z
            · rw [z]
              exact hb
            · intro e2
              rw [e2, hT] at z
              cases z
          · rw [but_ne fun e2 => by rw [e2, hT] at q; cases q]
            exact q
          · rw [but_ne fun e2 => by rw [e2, hT] at q; cases q]
            exact q
        · obtain ⟨m, hn1, hl⟩ := I1.loc
          obtain ⟨r, rv, l⟩ := hl j y w hN hσ (hv.elim (fun z => Or.inr (Or.inl z)) (fun z => Or.inr (Or.inr z)))
          rcases l with ⟨z, _⟩ | ⟨_, cc, hc, oc, he, hd⟩
          · rcases hv with z2 | z2
            · rw [z] at z2; cases z2
            · rw [z] at z2; cases z2
          · exact ⟨r, cc, rv, clo_lookup (lookup_mem' hfr) hc, oc, kept cc oc (nTb cc (I1.freeC y cc hc)) he, hd⟩
    · intro g h5 tk5 gs hgb hag hsz5 hk5 W5 hat
      simp only [GxR.passing_true, List.length_range] at W5
      refine hQ n f H1 g _ hR ⟨_, _, _, _, _, W5.in4_1, hat, fun j y sj Qj Ej hy hQj => ?_, fun s' hm => ?_⟩
      · obtain ⟨i, hij, rfl⟩ := hy
        obtain ⟨hj, ej⟩ := List.getElem?_eq_some_iff.mp hij
        rw [List.getElem_range] at ej
        subst ej
        exact wpAny_truthy_bool hQj
      · have nwr : ∀ b u, s1.heap.get? b = some u → b ∉ h3.objs.size :: [s1.heap.objs.size] := fun b u e hb => by
          have hl := Heap.lt_size e
          rcases List.mem_cons.mp hb with z | z
          · rw [z] at hl
            exact Nat.lt_irrefl _ (Nat.lt_trans hl hsz3)
          · rw [List.mem_singleton.mp z] at hl
            exact Nat.lt_irrefl _ hl
        exact inv_grown I1 hT (fun b u hb e => hm.heap b u (nwr b u e) (hk5 b u (keep3 b u hb e))) ⟨ps', hm.heap P _ (nwr P _ hPs) (hk5 P _ hP3), ht3⟩ hm.os (AllBare.movedS (I1.bare.push hgb) hm)
  refine ⟨lim2, ?_⟩
  cases hf : codeAmong gpos ps.toList with
  | some cv => exact wpAny_genexprCode_hit hcode (cd.code hP2 ht) hf (go cv (s1.heap.push o) s1.toks ps (Heap.ExtBut.refl _ _) (Nat.le_refl _) hP2 ht)
  | none =>
    refine wpAny_genexprCodeX hcode (cd.code hP2 ht) (cd.tab hP2) hf fun c' h' tk hx hge hlt hco' _ htab' _ => ?_
    obtain ⟨_, _, _, _, _, _, _, _, _, _, _, _, _, _, _, _, _, _, _, htr, _⟩ := hco'
    exact go _ h' tk _ hx (Nat.le_trans hge (Nat.le_of_lt hlt)) htab'.2 htr
def tGenT (X : Cx) (P : Addr) (scope : Scope) (x : Str) (elt : Expr) (fin : Nat → (Nat → Bool) → Bool) (te : TE) : TE := fun σ H Q => te σ H fun v H1 => Tab H1 P ∧ ∃ (n : Nat) (xs : Nat → V) (f : Nat → Bool), SrcT X.K H1 v n xs ∧ (∀ i u, i < n → RelV (xs i) u → QV X σ H1 P scope x u elt (.bl (f i))) ∧ Q (.bl (fin n f)) H1
theorem pe_allT {c P : Addr} {elt iter : Expr} {xa x : Str} {pa px pt p pos gpos : Pos} {kt : Nat} {scope : Scope} {te : TE} {k : Nat} (hr : Room k X.A) (hg : Gl X "all") (hm : X.mg "all" = none) (hb : bootBuiltins "all" = some (.builtin "all")) (TB : LamX.TabB X.base X.mg c P) (hcode : X.env.code = .ref c) (S : GxR.GenS X.env scope x) (hxa : scope.names.lookup xa = some .local) (hab : xa ≠ x)
    (hi : PE X iter te) (hs : ∀ v, genFold iter X.env v = pure v)
    (he : starEach [.GeneratorExp elt [⟨.Tuple [.Name xa pa, .Name x px] kt pt, iter, [], 0⟩] scope gpos] X.env = (false, eval (.GeneratorExp elt [⟨.Tuple [.Name xa pa, .Name x px] kt pt, iter, [], 0⟩] scope gpos) X.env) :: starEach [] X.env := by rfl) :
    PE X (.Call (.Name "all" p) [.GeneratorExp elt [⟨.Tuple [.Name xa pa, .Name x px] kt pt, iter, [], 0⟩] scope gpos] [] pos) (tGenT X P scope x elt allF te) := by
  refine ⟨fun pins s σ H Q I h => wpAny_Call_Name_kw (ld_blt I hg hm hb (PyProof.Rows.callWith_builtin1 ?_ he (by rfl)))⟩
  rw [he]
  show wpAny _ _ (spliced ((false, eval (.GeneratorExp elt [⟨.Tuple [.Name xa pa, .Name x px] kt pt, iter, [], 0⟩] scope gpos) X.env) :: backTo pos (starEach [] X.env))) _ _ s
  refine Calls.spliced_cons (gen_makeT (R := fun n f H1 => Q (.bl (allF n f)) H1) hr TB hcode S hxa hab hi hs I h fun n f H1 g s5 hR ⟨fp, wr, G, F, St₁, W, hst, htr, hI⟩ => Calls.spliced_nil ?_)
  exact call_all_walkS (W.self 0 _ _ _ hst ⟨g, fp, wr, G, _, F, St₁, _, rfl, W, hst, htr, fun s' hmv => ⟨.bl _, H1, hI s' hmv, rfl, hR⟩⟩)
end
section
variable {X : Cx}
theorem cr_range1 : CallR X (.type "range") (fun vs H Q => ∃ i, vs = [V.int i] ∧ ∀ p, H p = none → Q (.ref p) (upd H p (.rng 0 i))) := by
  intro pins s σ H vs us Q I r h
  obtain ⟨i, rfl, q⟩ := h
  cases r with
  | cons ri rn =>
    cases rn
    obtain ⟨t, rfl⟩ := ri
    refine call_range_1 ⟨.ref s.heap.objs.size, upd H s.heap.objs.size (.rng 0 i), I.laid (t' := _) (fun b o e => Heap.get?_push_of_some _ e) (Nat.le_refl _) ?_, rfl, q _ (I.hok.fresh (Nat.le_refl _))⟩
    exact ⟨_, _, _, Heap.get?_push_size _ rfl⟩
end
section
variable {K : PySem.W.Frag} {σ : L2.St} {H : Hp} {ta tb tc te : TE}
theorem ev_chain {f g : Int → Int → Bool} {i j k : Int} (ha : Ev ta σ H (.int i)) (hb : Ev tb σ H (.int j)) (hc : Ev tc σ H (.int k)) : Ev (tChain (rI0 fun i j => .bl (f i j)) (rI0 fun i j => .bl (g i j)) ta tb tc) σ H (.bl (f i j && g j k)) := fun H1 e Q q =>
  ha H1 e _ fun H2 e2 => hb H2 (e.trans e2) _ fun H3 e3 => ⟨i, j, rfl, rfl, f i j, rfl, by
    cases hf : f i j with
    | true =>
      rw [if_pos rfl]
      refine hc H3 ((e.trans e2).trans e3) _ fun H4 e4 => ⟨j, k, rfl, rfl, ?_⟩
      have := q H4 ((e2.trans e3).trans e4)
      rw [hf] at this
      exact this
    | false =>
      rw [if_neg Bool.false_ne_true]
      have := q H3 (e2.trans e3)
      rw [hf] at this
      exact this⟩
variable {X : Cx} {P : Addr} {scope : Scope} {x : Str} {elt : Expr} {fin : Nat → (Nat → Bool) → Bool}
/-- a generator expression over range(n) -/
theorem ev_genR {n : Int} {f : Nat → Bool} (h : Ev te σ H (.int n)) (hb : -(2 ^ 62) ≤ n ∧ n < 2 ^ 62) (hT : Tab H P) (he : ∀ H1, Ex H H1 → ∀ (i : Nat) u, (i : Int) < n → RelV (.int (i : Int)) u → QV X σ H1 P scope x u elt (.bl (f i))) :
    Ev (tGen X P scope x elt fin (tCB (fun vs H Q => ∃ i, vs = [V.int i] ∧ ∀ p, H p = none → Q (.ref p) (upd H p (.rng 0 i))) (tCons te tNil))) σ H (.bl (fin n.toNat f)) := fun H1 e Q q =>
  h H1 e _ fun H2 e2 => ⟨n, rfl, fun p hp => by
    have e3 := Ex.new (o := HO.rng 0 n) hp
    refine ⟨((hT.mono e).mono e2).mono e3, n.toNat, fun i => .int (0 + (i : Int)), f, .inr (.inr ⟨p, 0, n, rfl, upd_same, by rw [Int.sub_zero], by decide, by decide, hb.1, hb.2, fun i => rfl⟩), fun i u hi hu => he _ ((e.trans e2).trans e3) i u (by omega) (by have hu2 : RelV (.int (0 + (i : Int))) u := hu; rw [Int.zero_add] at hu2; exact hu2), q _ (e2.trans e3)⟩⟩
/-- a generator expression over a new list -/
theorem ev_genL {xs : List V} {f : Nat → Bool} (h : EvL te σ H xs) (hT : Tab H P) (he : ∀ H1, Ex H H1 → ∀ i u, i < xs.length → RelV (xs.getD i .non) u → QV X σ H1 P scope x u elt (.bl (f i))) :
    Ev (tGen X P scope x elt fin te) σ H (.bl (fin xs.length f)) := fun H1 e Q q =>
  h H1 e _ fun p H2 hp e2 h2 => ⟨hT.mono (e.trans e2), xs.length, fun i => xs.getD i .non, f, .inl ⟨p, xs, rfl, sq_of h2, rfl, fun i => rfl⟩, fun i u hi hu => he H2 (e.trans e2) i u hi hu, q H2 e2⟩
/-- over a list of pairs -/
theorem ev_genT {v : V} {n : Nat} {xs : Nat → V} {f : Nat → Bool} (h : Ev te σ H v) (hT : Tab H P) (hs : ∀ H1, Ex H H1 → SrcT X.K H1 v n xs) (he : ∀ H1, Ex H H1 → ∀ i u, i < n → RelV (xs i) u → QV X σ H1 P scope x u elt (.bl (f i))) :
    Ev (tGenT X P scope x elt fin te) σ H (.bl (fin n f)) := fun H1 e Q q => h H1 e _ fun H2 e2 => ⟨hT.mono (e.trans e2), n, xs, f, hs H2 (e.trans e2), he H2 (e.trans e2), q H2 e2⟩
/-- tuple(new list) -/
theorem eu_tupL {xs : List V} (h : EvL te σ H xs) : EvU (tCB (fun zs H Q => ∃ p ys, zs = [.ref p] ∧ ((SqL K H p ys ∧ ∀ l, H l = none → Q (.ref l) (upd H l (.tup ys))) ∨ (SqT K H p ys ∧ Q (.ref p) H))) (tCons te tNil)) σ H xs := fun H1 e Q q =>
  h H1 e _ fun p H2 hp e2 h2 => ⟨p, xs, rfl, .inl ⟨sq_of h2, fun l hl => q l _ (fresh_back e2 hl) (e2.trans (Ex.new hl)) upd_same⟩⟩
end
end LN

set_option Elab.async false
set_option linter.all false
set_option maxRecDepth 100000
set_option maxHeartbeats 4000000
namespace LP
open PySem PySem.Spec PyProof.Rows L2 Evl LT LG LS LX LO
/-! ### comprehensions whose elements are new objects: R i (those before) y heap -/
abbrev Rel := Nat → List V → V → Hp → Prop
def Mon (R : Rel) : Prop := ∀ i xs y H H', Ex H H' → R i xs y H → R i xs y H'
def EvR (te : TE) (σ : L2.St) (H : Hp) (n : Nat) (R : Rel) : Prop := ∀ H1, Ex H H1 → ∀ Q : VK, (∀ L xs H2, H1 L = none → Ex H1 H2 → H2 L = some (.lst xs) → xs.length = n → (∀ i y, xs[i]? = some y → R i (xs.take i) y H2) → Q (.ref L) H2) → te σ H1 Q
theorem but_ex {D : Addr} {H : Hp} : Ex (but D H) H := fun a o h => by
  unfold but at h
  split at h
  · cases h
  · exact h
theorem ex_but {D : Addr} {H H' : Hp} (e : Ex H H') : Ex (but D H) (but D H') := fun a o h => by
  unfold but at h ⊢
  split at h
  · cases h
  · rename_i n
    rw [if_neg n]
    exact e a o h
theorem but_upd {D : Addr} {H : Hp} {o : HO} : but D (upd H D o) = but D H := funext fun a => by
  unfold but
  split
  · rfl
  · rename_i n
    exact upd_ne n
/-- what is new later than D -/
theorem but_new {D l : Addr} {H2 H3 : Hp} {o : HO} (hD : H2 D ≠ none) (hl : H2 l = none) (h : H3 l = some o) : but D H3 l = some o := by
  rw [but_ne (fun e => hD (by rw [← e]; exact hl))]
  exact h
/-- what stood before D -/
theorem but_old {D l : Addr} {H H3 : Hp} {o : HO} (hD : H D = none) (h : H l = some o) (e : Ex H H3) : but D H3 l = some o := by
  rw [but_ne (fun z => by rw [z, hD] at h; cases h)]
  exact e _ _ h
def Cr (H : Hp) (R : Rel) (D : Addr) (i : Nat) (H' : Hp) : Prop := H D = none ∧ Ex H H' ∧ ∃ xs, H' D = some (.lst xs) ∧ xs.length = i ∧ ∀ j y, xs[j]? = some y → R j (xs.take j) y (but D H')
theorem cr_turn {H H' : Hp} {R : Rel} {D : Addr} {i : Nat} {te : TE} {σ2 : L2.St} (mon : Mon R) (p : Cr H R D i H') (hi : i < 50000)
    (he : H' D ≠ none → ∀ xs : List V, xs.length = i → (∀ j y, xs[j]? = some y → R j (xs.take j) y (but D H')) → ∀ Q : VK, (∀ y H3, Ex H' H3 → R i xs y (but D H3) → Q y H3) → te σ2 H' Q) :
    tYes σ2 H' fun b H3 => if b = true then te σ2 H3 fun y H4 => ∃ acc, H4 D = some (.lst acc) ∧ acc.length < sizeLine ∧ Cr H R D (i + 1) (upd H4 D (.lst (acc ++ [y]))) else Cr H R D (i + 1) H3 := by
  obtain ⟨p1, p2, xs, p3, p4, p5⟩ := p
  show te σ2 H' fun y H4 => ∃ acc, H4 D = some (.lst acc) ∧ acc.length < sizeLine ∧ Cr H R D (i + 1) (upd H4 D (.lst (acc ++ [y])))
  refine he (by rw [p3]; exact fun e => by cases e) xs p4 p5 _ fun y H4 e4 r => ⟨xs, e4 _ _ p3, sz_lt (by omega), p1, (p2.trans e4).mut p1, xs ++ [y], upd_same, by simp [p4], fun j z hz => ?_⟩
  rw [but_upd]
  by_cases hj : j < xs.length
  · rw [List.getElem?_append_left hj] at hz
    rw [List.take_append_of_le_length (Nat.le_of_lt hj)]
    exact mon _ _ _ _ _ (ex_but e4) (p5 j z hz)
  · have hj2 : j = xs.length := by
      have := (List.getElem?_eq_some_iff.mp hz).1
      simp at this
      omega
    subst hj2
    rw [List.getElem?_append_right (Nat.le_refl _), Nat.sub_self] at hz
    cases hz
    rw [List.take_left', ← p4] at *
    · rw [p4]; rw [p4] at r; exact r
    · rfl
section
variable {K : PySem.W.Frag} {σ : L2.St} {H : Hp} {R : Rel} {te tl : TE} {vs : List Nat} {j j2 : Nat}
theorem er_R1 {ta : TA} {n : Int} (h : EvA ta σ H [.int n]) (hn : 0 ≤ n ∧ n ≤ 40000) (hw : ∀ x, wipe ((wipe σ vs).set j (some x)) vs = wipe σ vs) (mon : Mon R)
    (he : ∀ (i : Nat) D H1, H D = none → Ex H H1 → H1 D ≠ none → (i : Int) < n → ∀ xs : List V, xs.length = i → (∀ j y, xs[j]? = some y → R j (xs.take j) y (but D H1)) → ∀ Q : VK, (∀ y H3, Ex H1 H3 → R i xs y (but D H3) → Q y H3) → te ((wipe σ vs).set j (some (.int (i : Int)))) H1 Q) :
    EvR (tLc (iRng1 ta) (gName j) tYes te vs) σ H n.toNat R := fun H0 e Q q => h H0 e _ fun H1 e1 => ⟨n, rfl, by omega, by omega, fun Dl hD =>
  lc_range (lo := 0) (n := n.toNat) (Cr H1 R Dl) ⟨hD, Ex.new hD, [], upd_same, rfl, fun j y hy => by simp at hy⟩ (fun i H' hi p => by
    have e0 : (0 : Int) + (i : Int) = (i : Int) := Int.zero_add _
    rw [e0]
    exact ⟨hw _, cr_turn mon p (by omega) (fun h1 xs h2 h3 => he i Dl H' (fresh_back (e.trans e1) hD) ((e.trans e1).trans p.2.1) h1 (by omega) xs h2 h3)⟩)
    (fun H' ⟨p1, p2, xs, p3, p4, p5⟩ => q Dl xs H' (fresh_back e1 p1) (e1.trans p2) p3 p4 fun i y hy => mon _ _ _ _ _ but_ex (p5 i y hy))⟩
theorem er_L {a : Addr} {ys : List V} (h : Ev tl σ H (.ref a)) (hx : SqL K H a ys) (hz : ys.length ≤ 40000) (hw : ∀ x, wipe ((wipe σ vs).set j (some x)) vs = wipe σ vs) (mon : Mon R)
    (he : ∀ (i : Nat) (x : V) D H1, H D = none → Ex H H1 → H1 D ≠ none → ys[i]? = some x → ∀ xs : List V, xs.length = i → (∀ j y, xs[j]? = some y → R j (xs.take j) y (but D H1)) → ∀ Q : VK, (∀ y H3, Ex H1 H3 → R i xs y (but D H3) → Q y H3) → te ((wipe σ vs).set j (some x)) H1 Q) :
    EvR (tLc (iList K tl) (gName j) tYes te vs) σ H ys.length R := fun H0 e Q q => h H0 e _ fun H1 e1 => ⟨a, rfl, ⟨ys, ex_l (e.trans e1) hx⟩, fun Dl hD =>
  lc_list (xs := ys) (Cr H1 R Dl) ⟨hD, Ex.new hD, [], upd_same, rfl, fun j y hy => by simp at hy⟩ (fun i H' _ p => ex_l ((e.trans e1).trans p.2.1) hx)
    (fun i x H' hi p => ⟨hw x, cr_turn mon p (by have := (List.getElem?_eq_some_iff.mp hi).1; omega) (fun h1 xs h2 h3 => he i x Dl H' (fresh_back (e.trans e1) hD) ((e.trans e1).trans p.2.1) h1 hi xs h2 h3)⟩)
    (fun H' ⟨p1, p2, xs, p3, p4, p5⟩ => q Dl xs H' (fresh_back e1 p1) (e1.trans p2) p3 p4 fun i y hy => mon _ _ _ _ _ but_ex (p5 i y hy))⟩
/-- over a list of pairs -/
theorem er_L2 {a : Addr} {ys : List V} (h : Ev tl σ H (.ref a)) (hx : SqL K H a ys) (hz : ys.length ≤ 40000) (hw : ∀ x y, wipe (((wipe σ vs).set j (some x)).set j2 (some y)) vs = wipe σ vs) (mon : Mon R)
    (he : ∀ (i : Nat) (x : V) D H1, H D = none → Ex H H1 → H1 D ≠ none → ys[i]? = some x → ∃ t u v, x = .ref t ∧ SqT K H1 t [u, v] ∧ ∀ xs : List V, xs.length = i → (∀ j y, xs[j]? = some y → R j (xs.take j) y (but D H1)) → ∀ Q : VK, (∀ y H3, Ex H1 H3 → R i xs y (but D H3) → Q y H3) → te (((wipe σ vs).set j (some u)).set j2 (some v)) H1 Q) :
    EvR (tLc (iList K tl) (gTup K 2 (gCons (gName j) (gCons (gName j2) gNil))) tYes te vs) σ H ys.length R := fun H0 e Q q => h H0 e _ fun H1 e1 => ⟨a, rfl, ⟨ys, ex_l (e.trans e1) hx⟩, fun Dl hD =>
  lc_list (xs := ys) (Cr H1 R Dl) ⟨hD, Ex.new hD, [], upd_same, rfl, fun j y hy => by simp at hy⟩ (fun i H' _ p => ex_l ((e.trans e1).trans p.2.1) hx)
    (fun i x H' hi p => by
      have h1 : H' Dl ≠ none := by
        obtain ⟨_, _, xs, p3, _⟩ := p
        rw [p3]
        exact fun e => by cases e
      obtain ⟨t, u, v, rfl, hT, k⟩ := he i x Dl H' (fresh_back (e.trans e1) hD) ((e.trans e1).trans p.2.1) h1 hi
      exact ⟨t, [u, v], rfl, hT, rfl, u, [v], rfl, v, [], rfl, rfl, hw u v, cr_turn mon p (by have := (List.getElem?_eq_some_iff.mp hi).1; omega) fun _ xs' h2 h3 => k xs' h2 h3⟩)
    (fun H' ⟨p1, p2, xs, p3, p4, p5⟩ => q Dl xs H' (fresh_back e1 p1) (e1.trans p2) p3 p4 fun i y hy => mon _ _ _ _ _ but_ex (p5 i y hy))⟩
end
/-! ### a list of known items, new or not -/
def EvF (te : TE) (σ : L2.St) (H : Hp) (xs : List V) : Prop := ∀ H1, Ex H H1 → ∀ Q : VK, (∀ p H2, Ex H1 H2 → H2 p = some (.lst xs) → Q (.ref p) H2) → te σ H1 Q
def fset (f : Nat → List Int) (s : Nat) (v : List Int) : Nat → List Int := fun x => if x = s then v else f x
def Z8 : List Int := [0, 0, 0, 0, 0, 0, 0, 0]
/-- a dict from sectors to lists of words -/
def Dz (H : Hp) (d : Addr) (n : Nat) (f : Nat → List Int) : Prop := ∃ kvs : List (Key × V), H d = some (.dK kvs) ∧ kvs.length ≤ n ∧ ∀ s : Nat, (valV kvs (.inl (s : Int)) = none ∧ f s = Z8) ∨ ∃ l, valV kvs (.inl (s : Int)) = some (.ref l) ∧ H l = some (.lst ((f s).map V.int))
theorem cut_lo (xs : List V) (n : Nat) : cutV xs none (some (n : Int)) = xs.take n := by
  unfold cutV
  rw [HT.sIx_none, HT.sIx_nat, List.drop_zero, Nat.sub_zero, List.take_eq_take_iff]
  omega
theorem cut_hi (xs : List V) (n : Nat) : cutV xs (some (n : Int)) none = xs.drop n := by
  unfold cutV
  rw [HT.sIx_none, HT.sIx_nat, List.take_of_length_le (by rw [List.length_drop]; omega)]
  by_cases h : n ≤ xs.length
  · rw [Nat.min_eq_left h]
  · rw [Nat.min_eq_right (by omega), List.drop_eq_nil_of_le (Nat.le_refl _), List.drop_eq_nil_of_le (by omega)]
section
variable {K : PySem.W.Frag} {σ : L2.St} {H H' : Hp} {ta tb te td tk tx : TE} {v : V} {xs ys : List V} {d : Addr} {n s : Nat} {f : Nat → List Int} {D : Ends} {tz : TS}
theorem el_f (h : EvL te σ H xs) : EvF te σ H xs := fun H1 e Q q => h H1 e Q fun p H2 _ e2 h2 => q p H2 e2 h2
theorem Dz.ex (D : Dz H d n f) (e : Ex H H') : Dz H' d n f := by
  obtain ⟨kvs, h, hl, hs⟩ := D
  exact ⟨kvs, e _ _ h, hl, fun s => (hs s).imp id fun ⟨l, a, b⟩ => ⟨l, a, e _ _ b⟩⟩
theorem Dz.le (D : Dz H d n f) {m : Nat} (h : n ≤ m) : Dz H d m f := by
  obtain ⟨kvs, h1, hl, hs⟩ := D
  exact ⟨kvs, h1, Nat.le_trans hl h, hs⟩
theorem ef_get (hd : Ev td σ H (.ref d)) (hD : Dz H d n f) (hk : Ev tk σ H (.int (s : Int))) (hx : EvL tx σ H (Z8.map V.int)) : EvF (tDGet2 td tk tx) σ H ((f s).map V.int) := fun H1 e Q q => by
  obtain ⟨kvs, h, _, hs⟩ := hD
  refine hd H1 e _ fun H2 e2 => ⟨d, rfl, .inl ⟨kvs, .inl (e2 _ _ (e _ _ h))⟩, hk H2 (e.trans e2) _ fun H3 e3 => hx H3 ((e.trans e2).trans e3) _ fun p H4 hp e4 h4 => ?_⟩
  have e14 := (e2.trans e3).trans e4
  rcases hs s with ⟨hn, hf⟩ | ⟨l, hv, hl⟩
  · refine ⟨none, ?_, ?_⟩
    · rw [← hn]
      exact DGet.k (k := Sum.inl (s : Int)) (e14 _ _ (e _ _ h))
    · rw [hf] at q
      exact q p H4 e14 h4
  · refine ⟨some (.ref l), ?_, q l H4 e14 (e14 _ _ (e _ _ hl))⟩
    rw [← hv]
    exact DGet.k (k := Sum.inl (s : Int)) (e14 _ _ (e _ _ h))
theorem q_asgF {i : Nat} (h : EvF te σ H xs) (k : ∀ p H1, Ex H H1 → H1 p = some (.lst xs) → tz D (σ.set i (some (.ref p))) H1) : tSeq (tAsg te (gName i)) tz D σ H := h H (Ex.refl H) _ fun p H1 e h1 => k p H1 e h1
/-- list(an evaluated list) -/
theorem el_listF (h : EvF te σ H xs) : EvL (tCB (rListS K) (tCons te tNil)) σ H xs := fun H1 e Q q =>
  h H1 e _ fun p H2 e2 h2 => ⟨p, xs, rfl, Or.inl (sq_of h2), fun l hl => q l _ (fresh_back e2 hl) (e2.trans (Ex.new hl)) upd_same⟩
theorem q_dcopy {i : Nat} (hd : Ev td σ H (.ref d)) (hD : Dz H d n f) (k : ∀ p H1, H p = none → Ex H H1 → Dz H1 p n f → tz D (σ.set i (some (.ref p))) H1) :
    tSeq (tAsg (tCB (fun xs H Q => ∃ (a : Addr) (kvs : List (Key × V)), xs = [.ref a] ∧ Rd H a (.dK kvs) ∧ ∀ p, H p = none → Q (.ref p) (upd H p (.dK kvs))) (tCons td tNil)) (gName i)) tz D σ H := by
  obtain ⟨kvs, h, hl, hs⟩ := hD
  refine hd H (Ex.refl H) _ fun H1 e1 => ⟨d, kvs, rfl, .inl (e1 _ _ h), fun p hp => k p _ (fresh_back e1 hp) (e1.trans (Ex.new hp)) ⟨kvs, upd_same, hl, fun s => (hs s).imp id fun ⟨l, a, b⟩ => ⟨l, a, (e1.trans (Ex.new hp)) _ _ b⟩⟩⟩
theorem s_dputL {zs : List Int} (hv : EvL te σ H (zs.map V.int)) (hd : Ev td σ H (.ref d)) (hk : Ev tk σ H (.int (s : Int))) (hD : Dz H d n f) (hn : n < 100000) (k : ∀ H1 o, Ex H H1 → Dz (upd H1 d o) d (n + 1) (fset f s zs) → D.nx σ (upd H1 d o)) : sDPut td tk te D σ H := by
  obtain ⟨kvs, h, hl, hs⟩ := hD
  refine hv H (Ex.refl H) _ fun l H1 hl1 e1 h1 => hd H1 e1 _ fun H2 e2 => hk H2 (e1.trans e2) _ fun H3 e3 => ?_
  have e13 := (e1.trans e2).trans e3
  have h3 := e13 _ _ h
  have l3 := e3 _ _ (e2 _ _ h1)
  have hld : l ≠ d := ne_of l3 h3 (by intro z; cases z)
  refine ⟨d, _, rfl, DPut.k (k := Sum.inl (s : Int)) h3 (sz_lt (by omega)), k H3 _ e13 ⟨_, upd_same, Nat.le_trans (length_putK _ _ _) (by omega), fun j => ?_⟩⟩
  rw [valV_put]
  by_cases hj : j = s
  · subst hj
    rw [if_pos rfl]
    refine .inr ⟨l, rfl, ?_⟩
    rw [upd_ne hld, l3]
    unfold fset
    rw [if_pos rfl]
  · rw [if_neg (fun z => hj (by cases z; rfl))]
    have ef : fset f s zs j = f j := if_neg hj
    rw [ef]
    refine (hs j).imp id fun ⟨m, a, b⟩ => ⟨m, a, ?_⟩
    have b3 := e13 _ _ b
    rw [upd_ne (ne_of b3 h3 (by intro z; cases z))]
    exact b3
theorem el_catL (ha : EvL ta σ H xs) (hb : EvL tb σ H ys) (hz : xs.length + ys.length ≤ 100000) : EvL (tOp rCat ta tb) σ H (xs ++ ys) := fun H1 e Q q =>
  ha H1 e _ fun a H2 ha2 e2 h2 => hb H2 (e.trans e2) _ fun b H3 hb3 e3 h3 => ⟨a, b, xs, ys, rfl, rfl, e3 _ _ h2, h3, sz_of hz, fun p hp => q p _ (fresh_back (e2.trans e3) hp) ((e2.trans e3).trans (Ex.new hp)) upd_same⟩
theorem el_cat {l : Addr} (ha : Ev ta σ H (.ref l)) (hl : H l = some (.lst xs)) (hb : EvL tb σ H ys) (hz : xs.length + ys.length ≤ 100000) : EvL (tOp rCat ta tb) σ H (xs ++ ys) := fun H1 e Q q =>
  ha H1 e _ fun H2 e2 => hb H2 (e.trans e2) _ fun b H3 hb3 e3 h3 => ⟨l, b, xs, ys, rfl, rfl, e3 _ _ (e2 _ _ (e _ _ hl)), h3, sz_of hz, fun p hp => q p _ (fresh_back (e2.trans e3) hp) ((e2.trans e3).trans (Ex.new hp)) upd_same⟩
theorem el_rep1 {z : Int} (ha : EvL ta σ H [v]) (hb : Ev tb σ H (.int z)) (h0 : 0 ≤ z) (h1 : z ≤ 100000) : EvL (tOp rRep ta tb) σ H (List.replicate z.toNat v) := fun H1 e Q q =>
  ha H1 e _ fun a H2 ha2 e2 h2 => hb H2 (e.trans e2) _ fun H3 e3 => ⟨a, z, [v], rfl, rfl, e3 _ _ h2, by omega, by omega, sz_of (by simp; omega), fun p hp => by
    have := q p (upd H3 p (.lst (List.replicate z.toNat [v]).flatten)) (fresh_back (e2.trans e3) hp) ((e2.trans e3).trans (Ex.new hp))
    rw [show (List.replicate z.toNat [v]).flatten = List.replicate z.toNat v by
      induction z.toNat with
      | zero => rfl
      | succ k ih => rw [List.replicate_succ, List.flatten_cons, ih]; rfl] at this ⊢
    exact this upd_same⟩
theorem ev_min2 {i j : Int} (ha : Ev ta σ H (.int i)) (hb : Ev tb σ H (.int j)) : Ev (tCB (fun xs H Q => ∃ i j, xs = [.int i, .int j] ∧ Q (.int (if j < i then j else i)) H) (tCons ta (tCons tb tNil))) σ H (.int (if j < i then j else i)) := ev_cb (ea_cons ha (ea_cons hb ea_nil)) fun H1 e Q q => ⟨i, j, rfl, q H1 (Ex.refl H1)⟩
theorem er_asg {i : Nat} {R : Rel} (h : EvR te σ H n R) (k : ∀ L xs H1, H L = none → Ex H H1 → H1 L = some (.lst xs) → xs.length = n → (∀ i y, xs[i]? = some y → R i (xs.take i) y H1) → tz D (σ.set i (some (.ref L))) H1) : tSeq (tAsg te (gName i)) tz D σ H := h H (Ex.refl H) _ k
theorem er_ret {R : Rel} (h : EvR te σ H n R) (k : ∀ L xs H1, H L = none → Ex H H1 → H1 L = some (.lst xs) → xs.length = n → (∀ i y, xs[i]? = some y → R i (xs.take i) y H1) → D.rt (.ref L) H1) : tRet te D σ H := h H (Ex.refl H) _ k
end
/-! ### more statements -/
section
variable {K : PySem.W.Frag} {σ : L2.St} {H : Hp} {ta tb te : TE} {t : TA} {xs ys : List V} {l C p dx : Addr} {fs : List (Str × V)} {m : Str} {n : Nat} {D : Ends} {tz : TS}
theorem s_setLL {j : Nat} (hl : H l = some (.lst xs)) (h : EvL te σ H ys) (ho : Ev ta σ H (.ref l)) (hi : Ev tb σ H (.int (j : Int))) (hj : j < xs.length) (k : ∀ q H1, H q = none → Ex H H1 → H1 q = some (.lst ys) → D.nx σ (upd H1 l (.lst (xs.set j (.ref q))))) :
    tAsg te (gSub ta tb rSetL) D σ H := h H (Ex.refl H) _ fun q H1 hq e1 h1 => ho H1 e1 _ fun H2 e2 => hi H2 (e1.trans e2) _ fun H3 e3 => ⟨l, xs, (j : Int), j, rfl, rfl, ((e1.trans e2).trans e3) l _ hl, ixN_nat hj, k q H3 hq ((e1.trans e2).trans e3) (e3 _ _ (e2 _ _ h1))⟩
theorem q_fldR {R : Rel} (hv : EvR te σ H n R) (ha : Ev ta σ H (.ref p)) (hi : H p = some (.ins C dx fs)) (c : Cls K C) (nA : NoAttr K C m) (hz : fs.length < 1000) (k : ∀ L xs H1 H2, H L = none → Ex H H1 → Ex H1 H2 → H2 L = some (.lst xs) → xs.length = n → (∀ i y, xs[i]? = some y → R i (xs.take i) y H1) → tz D σ (upd H2 p (.ins C dx (putF m (.ref L) fs)))) : tSeq (sFld K ta te m) tz D σ H :=
  hv H (Ex.refl _) _ fun L xs H1 hL e1 h1 hn hr => ha H1 e1 _ fun H2 e2 => ⟨p, C, dx, fs, rfl, e2 _ _ (e1 _ _ hi), c, nA, hz, k L xs H1 H2 hL e1 e2 (e2 _ _ h1) hn hr⟩
theorem q_forZ {a b : Addr} {g : TG} {tu : TS} (h : EvA t σ H [.ref a, .ref b]) (hx : SqL K H a xs) (hy : SqL K H b ys) (Pv : Nat → L2.St → Hp → Prop) (h0 : ∀ H1, Ex H H1 → Pv 0 σ H1) (hl : ∀ i σ' H', Pv i σ' H' → SqL K H' a xs ∧ SqL K H' b ys)
    (hs : ∀ i x y T σ' H', xs[i]? = some x → ys[i]? = some y → Pv i σ' H' → H' T = none → g (.ref T) σ' (upd H' T (.tup [x, y])) fun σ2 H2 => tu { D with nx := Pv (i + 1), ct := Pv (i + 1), bk := tz D } σ2 H2) (hd : ∀ σ' H', Pv (min xs.length ys.length) σ' H' → tz D σ' H') : tSeq (tFor (iZip K t) g tu) tz D σ H :=
  h H (Ex.refl H) _ fun H1 e => ⟨a, b, xs, ys, rfl, ex_l e hx, ex_l e hy, for_it (D := { D with nx := tz D }) (walk_zip rfl) Pv (h0 H1 e) (fun i σ' H' _ p => hl i σ' H' p) (fun i v σ' H' H2 hi p y => by
    obtain ⟨T, x, z, rfl, hT, rfl, h1, h2⟩ := y
    exact hs i x z T σ' H' h1 h2 p hT) hd⟩
end
theorem refs_of : ∀ {xs : List V}, (∀ y ∈ xs, ∃ a, y = V.ref a) → ∃ ks : List Addr, xs = ks.map V.ref
  | [], _ => ⟨[], rfl⟩
  | x :: r, h => by
    obtain ⟨a, rfl⟩ := h x List.mem_cons_self
    obtain ⟨ks, e⟩ := refs_of fun y hy => h y (List.mem_cons_of_mem _ hy)
    exact ⟨a :: ks, by rw [e]; rfl⟩
/-- a method that is passed a new list -/
theorem mR_run {sp : Sp} {σ : L2.St} {H : Hp} {ta te : TE} {C p dx : Addr} {fs : List (Str × V)} {m : Str} {xs : List V} {D : Ends} {E : XK} (ha : Ev ta σ H (.ref p)) (hi : H p = some (.ins C dx fs)) (hl : fs.lookup m = none) (ht : EvL te σ H xs) (k : ∀ c H1, H c = none → Ex H H1 → H1 c = some (.lst xs) → sp [.ref p, .ref c] H1 (fun _ H2 => D.nx σ H2) E) : tDrop (tMeth C m sp [] E ta (tCons te tNil)) D σ H :=
  ha H (Ex.refl _) _ fun H2 e2 => ⟨p, dx, fs, rfl, e2 _ _ hi, hl, ht H2 e2 _ fun c H3 hc e3 h3 => k c H3 (fresh_back e2 hc) (e2.trans e3) h3⟩
section
variable {K : PySem.W.Frag} {σ : L2.St} {H : Hp} {ta tb te t1 : TE} {t : TA} {v : V} {xs ys vs : List V} {C p dx a : Addr} {fs : List (Str × V)} {m : Str} {sp : Sp} {D : Ends} {tz : TS}
theorem ev_int1 {i : Int} (h : Ev te σ H (.int i)) : Ev (tCB (fun xs H Q => (∃ i, xs = [V.int i] ∧ Q (V.int i) H) ∨ ∃ k : Bool, xs = [V.bl k] ∧ Q (V.int (if k then 1 else 0)) H) (tCons te tNil)) σ H (.int i) := ev_cb (ea_cons h ea_nil) fun H1 _ Q q => .inl ⟨i, rfl, q _ (Ex.refl _)⟩
theorem ef_var (h : Ev te σ H (.ref a)) (ha : H a = some (.lst xs)) : EvF te σ H xs := fun H1 e Q q => h H1 e _ fun H2 e2 => q a H2 e2 (e2 _ _ (e _ _ ha))
theorem ef_is (h : EvF te σ H xs) (e : xs = ys) : EvF te σ H ys := e ▸ h
theorem el_meth {E : XK} (ha : Ev ta σ H (.ref p)) (hi : H p = some (.ins C dx fs)) (hl : fs.lookup m = none) (ht : EvA t σ H vs) (hs : SpL sp (.ref p :: vs) H xs) : EvL (tMeth C m sp [] E ta t) σ H xs := fun H1 e Q q =>
  ha H1 e _ fun H2 e2 => ⟨p, dx, fs, rfl, e2 _ _ (e _ _ hi), hl, ht H2 (e.trans e2) _ fun H3 e3 => by
    rw [List.append_nil]
    exact hs H3 ((e.trans e2).trans e3) Q (fun l H4 hl e4 h4 => q l H4 (fresh_back (e2.trans e3) hl) ((e2.trans e3).trans e4) h4) E⟩
/-- in a try's body: o.m(e, a new list), o.m(a new list), o.m(e ..) -/
theorem s_mA2L {E : L2.St → XK} (ha : Ev ta σ H (.ref p)) (hi : H p = some (.ins C dx fs)) (hl : fs.lookup m = none) (h1 : Ev t1 σ H v) (ht : EvL te σ H xs) (k : ∀ c H1, H c = none → Ex H H1 → H1 c = some (.lst xs) → sp [.ref p, v, .ref c] H1 (fun _ H2 => D.nx σ H2) (E σ)) : tDrop (tMethA C m sp E ta (tCons t1 (tCons te tNil))) D σ H :=
  ha H (Ex.refl _) _ fun H2 e2 => ⟨p, dx, fs, rfl, e2 _ _ hi, hl, h1 H2 e2 _ fun H3 e3 => ht H3 (e2.trans e3) _ fun c H4 hc e4 h4 => k c H4 (fresh_back (e2.trans e3) hc) ((e2.trans e3).trans e4) h4⟩
theorem s_mA1L {E : L2.St → XK} (ha : Ev ta σ H (.ref p)) (hi : H p = some (.ins C dx fs)) (hl : fs.lookup m = none) (ht : EvL te σ H xs) (k : ∀ c H1, H c = none → Ex H H1 → H1 c = some (.lst xs) → sp [.ref p, .ref c] H1 (fun _ H2 => D.nx σ H2) (E σ)) : tDrop (tMethA C m sp E ta (tCons te tNil)) D σ H :=
  ha H (Ex.refl _) _ fun H2 e2 => ⟨p, dx, fs, rfl, e2 _ _ hi, hl, ht H2 e2 _ fun c H3 hc e3 h3 => k c H3 (fresh_back e2 hc) (e2.trans e3) h3⟩
theorem s_mAV {E : L2.St → XK} (ha : Ev ta σ H (.ref p)) (hi : H p = some (.ins C dx fs)) (hl : fs.lookup m = none) (ht : EvA t σ H vs) (k : ∀ H1, Ex H H1 → sp (.ref p :: vs) H1 (fun _ H2 => D.nx σ H2) (E σ)) : tDrop (tMethA C m sp E ta t) D σ H := mA_run (Q := fun _ H2 => D.nx σ H2) ha hi hl ht k
end
/-! ### what is frozen: all that G has; what is new joins it, but for X -/
open Classical in
noncomputable def grow (G H H1 : Hp) (X : Addr → Prop) : Hp := fun a => if G a ≠ none then G a else if H a = none ∧ ¬ X a then H1 a else none
section
variable {G H H1 : Hp} {X : Addr → Prop} {a : Addr} {o : HO}
theorem grow_ex : Ex G (grow G H H1 X) := fun a o h => by
  unfold grow
  rw [if_pos (by rw [h]; exact fun e => by cases e)]
  exact h
theorem grow_sub (e : Ex G H1) : Ex (grow G H H1 X) H1 := fun a o h => by
  unfold grow at h
  split at h
  · exact e a o h
  · split at h
    · exact h
    · cases h
theorem grow_mono {H2 : Hp} (e : Ex H1 H2) : Ex (grow G H H1 X) (grow G H H2 X) := fun a o h => by
  unfold grow at h ⊢
  split at h
  · rename_i c
    rw [if_pos c]
    exact h
  · rename_i c
    rw [if_neg c]
    split at h
    · rename_i c2
      rw [if_pos c2]
      exact e _ _ h
    · cases h
theorem grow_no (h : H a ≠ none) (g : G a = none) : grow G H H1 X a = none := by
  unfold grow
  rw [if_neg (by rw [g]; exact fun e => e rfl), if_neg fun e => h e.1]
theorem grow_X (x : X a) (g : G a = none) : grow G H H1 X a = none := by
  unfold grow
  rw [if_neg (by rw [g]; exact fun e => e rfl), if_neg fun e => e.2 x]
theorem grow_new (g : G a = none) (h : H a = none) (x : ¬ X a) (h1 : H1 a = some o) : grow G H H1 X a = some o := by
  unfold grow
  rw [if_neg (by rw [g]; exact fun e => e rfl), if_pos ⟨h, x⟩]
  exact h1
end
theorem ef_ref {te : TE} {σ : L2.St} {H : Hp} {a : Addr} {xs : List V} (h : Ev te σ H (.ref a)) (ha : H a = some (.lst xs)) : EvF te σ H xs := ef_var h ha
theorem ev_lenT {K : PySem.W.Frag} {ta : TE} {σ : L2.St} {H : Hp} {p : Addr} {xs : List V} (ha : Ev ta σ H (.ref p)) (h : SqT K H p xs) : Ev (tCB (rLenS K) (tCons ta tNil)) σ H (.int (xs.length : Int)) := ev_cb (ea_cons ha ea_nil) fun H1 e Q q => ⟨p, xs, rfl, .inr (ex_t e h), q H1 (Ex.refl H1)⟩
theorem ints_inj : ∀ {a b : List Int}, a.map V.int = b.map V.int → a = b
  | [], [], _ => rfl
  | [], _ :: _, h => by simp at h
  | _ :: _, [], h => by simp at h
  | a :: r, b :: s, h => by
    rw [List.map_cons, List.map_cons] at h
    injection h with h1 h2
    rw [V.int.inj h1, ints_inj h2]
/-! ### a dict that is being made: its lists are frozen or new -/
def DzG (G H0 H' : Hp) (d : Addr) (n : Nat) (f : Nat → List Int) : Prop := ∃ kvs : List (Key × V), H' d = some (.dK kvs) ∧ kvs.length ≤ n ∧ ∀ s : Nat, (valV kvs (.inl (s : Int)) = none ∧ f s = Z8) ∨ ∃ l, valV kvs (.inl (s : Int)) = some (.ref l) ∧ (G l = some (.lst ((f s).map V.int)) ∨ (H0 l = none ∧ H' l = some (.lst ((f s).map V.int))))
section
variable {G H0 H H' : Hp} {σ : L2.St} {te td tk : TE} {d : Addr} {n s : Nat} {f : Nat → List Int} {D : Ends} {tz : TS}
theorem DzG.ex (h : DzG G H0 H d n f) (e : Ex H H') : DzG G H0 H' d n f := by
  obtain ⟨kvs, h, hl, hs⟩ := h
  exact ⟨kvs, e _ _ h, hl, fun s => (hs s).imp id fun ⟨l, a, b⟩ => ⟨l, a, b.imp id fun c => ⟨c.1, e _ _ c.2⟩⟩⟩
theorem DzG.dz (h : DzG G H0 H d n f) (e : Ex G H) : Dz H d n f := by
  obtain ⟨kvs, h, hl, hs⟩ := h
  exact ⟨kvs, h, hl, fun s => (hs s).imp id fun ⟨l, a, b⟩ => ⟨l, a, b.elim (fun c => e _ _ c) fun c => c.2⟩⟩
theorem DzG.grown (h : DzG G H0 H d n f) (hd : H0 d = none) (g : Ex G H0) : Dz (grow G H0 H fun _ => False) d n f := by
  obtain ⟨kvs, h, hl, hs⟩ := h
  exact ⟨kvs, grow_new (fresh_back g hd) hd id h, hl, fun s => (hs s).imp id fun ⟨l, a, b⟩ => ⟨l, a, b.elim (fun c => grow_ex _ _ c) fun c => grow_new (fresh_back g c.1) c.1 id c.2⟩⟩
theorem q_dcopyG {i : Nat} (g : Ex G H) (hd : Ev td σ H (.ref d)) (hD : Dz G d n f) (k : ∀ p H1, H p = none → Ex H H1 → DzG G H H1 p n f → tz D (σ.set i (some (.ref p))) H1) :
    tSeq (tAsg (tCB (fun xs H Q => ∃ (a : Addr) (kvs : List (Key × V)), xs = [.ref a] ∧ Rd H a (.dK kvs) ∧ ∀ p, H p = none → Q (.ref p) (upd H p (.dK kvs))) (tCons td tNil)) (gName i)) tz D σ H := by
  obtain ⟨kvs, h, hl, hs⟩ := hD
  refine hd H (Ex.refl H) _ fun H1 e1 => ⟨d, kvs, rfl, .inl (e1 _ _ (g _ _ h)), fun p hp => k p _ (fresh_back e1 hp) (e1.trans (Ex.new hp)) ⟨kvs, upd_same, hl, fun s => (hs s).imp id fun ⟨l, a, b⟩ => ⟨l, a, .inl b⟩⟩⟩
theorem s_dputG {zs : List Int} (g : Ex H0 H) (hv : EvL te σ H (zs.map V.int)) (hd : Ev td σ H (.ref d)) (hk : Ev tk σ H (.int (s : Int))) (hD : DzG G H0 H d n f) (hn : n < 100000) (k : ∀ H1 o, Ex H H1 → DzG G H0 (upd H1 d o) d (n + 1) (fset f s zs) → D.nx σ (upd H1 d o)) : sDPut td tk te D σ H := by
  obtain ⟨kvs, h, hl, hs⟩ := hD
  refine hv H (Ex.refl H) _ fun l H1 hl1 e1 h1 => hd H1 e1 _ fun H2 e2 => hk H2 (e1.trans e2) _ fun H3 e3 => ?_
  have e13 := (e1.trans e2).trans e3
  have h3 := e13 _ _ h
  have l3 := e3 _ _ (e2 _ _ h1)
  have hld : l ≠ d := ne_of l3 h3 (by intro z; cases z)
  refine ⟨d, _, rfl, DPut.k (k := Sum.inl (s : Int)) h3 (sz_lt (by omega)), k H3 _ e13 ⟨_, upd_same, Nat.le_trans (length_putK _ _ _) (by omega), fun j => ?_⟩⟩
  rw [valV_put]
  by_cases hj : j = s
  · subst hj
    rw [if_pos rfl]
    refine .inr ⟨l, rfl, .inr ⟨fresh_back g hl1, ?_⟩⟩
    rw [upd_ne hld, l3]
    unfold fset
    rw [if_pos rfl]
  · rw [if_neg (fun z => hj (by cases z; rfl))]
    have ef : fset f s zs j = f j := if_neg hj
    rw [ef]
    refine (hs j).imp id fun ⟨m, a, b⟩ => ⟨m, a, b.imp id fun c => ⟨c.1, ?_⟩⟩
    have b3 := e13 _ _ c.2
    rw [upd_ne (ne_of b3 h3 (by intro z; cases z))]
    exact b3
end
section
variable {K : PySem.W.Frag} {σ : L2.St} {H : Hp} {t1 t2 te : TE} {v1 v2 : V} {xs : List V} {l : Addr} {sp : Sp} {E : XK} {D : Ends} {tz : TS}
/-- x = f(e, e', a new list) -/
theorem q_call3L {i : Nat} (h1 : Ev t1 σ H v1) (h2 : Ev t2 σ H v2) (h3 : EvL te σ H xs) (k : ∀ c H1, H c = none → Ex H H1 → H1 c = some (.lst xs) → sp [v1, v2, .ref c] H1 (fun v H2 => tz D (σ.set i (some v)) H2) E) : tSeq (tAsg (tCall sp [] E (tCons t1 (tCons t2 (tCons te tNil)))) (gName i)) tz D σ H :=
  h1 H (Ex.refl _) _ fun H1 e1 => h2 H1 e1 _ fun H2 e2 => h3 H2 (e1.trans e2) _ fun c H3 hc e3 h3' => k c H3 (fresh_back (e1.trans e2) hc) ((e1.trans e2).trans e3) h3'
/-- x = x + [(e, e')] -/
theorem s_snocT {i : Nat} (ha : Ev te σ H (.ref l)) (hl : H l = some (.lst xs)) (h1 : Ev t1 σ H v1) (h2 : Ev t2 σ H v2) (hz : xs.length < 10000) (k : ∀ t L H1, H t = none → H L = none → Ex H H1 → H1 t = some (.tup [v1, v2]) → H1 L = some (.lst (xs ++ [.ref t])) → D.nx (σ.set i (some (.ref L))) H1) :
    tAsg (tOp rCat te (tLst (tCons (tTup (tCons t1 (tCons t2 tNil))) tNil))) (gName i) D σ H :=
  ha H (Ex.refl _) _ fun H1 e1 => h1 H1 e1 _ fun H2 e2 => h2 H2 (e1.trans e2) _ fun H3 e3 => ⟨by show 2 ≤ sizeLine; decide, fun t ht => ⟨by show 1 ≤ sizeLine; decide, fun b hb => by
    have e4 := Ex.new (o := .tup [v1, v2]) ht
    have e5 := Ex.new (o := .lst [.ref t]) hb
    have e13 := (e1.trans e2).trans e3
    refine ⟨l, b, xs, [.ref t], rfl, rfl, e5 _ _ (e4 _ _ (e13 _ _ hl)), upd_same, sz_of (by simp; omega), fun L hL => ?_⟩
    have e6 := Ex.new (o := .lst (xs ++ [.ref t])) hL
    exact k t L _ (fresh_back e13 ht) (fresh_back ((e13.trans e4).trans e5) hL) (((e13.trans e4).trans e5).trans e6) (e6 _ _ (e5 _ _ upd_same)) upd_same⟩⟩
end
end LP

set_option Elab.async false
set_option linter.all false
set_option maxRecDepth 100000
set_option maxHeartbeats 4000000
namespace LV
open PySem PySem.Spec PyProof.Rows L2 Evl LT LG LH
section
variable {K : PySem.W.Frag} {σ : L2.St} {H : Hp} {tl te : TE} {ta : TA} {P a b : Addr} {xs ys : List V} {okc : Nat → (Nat → V) → V → Prop} {vals : Nat → V} {r : V} {j j2 : Nat} {vs : List Nat}
/-- a generator expression over a list that stands, over a tuple, a range, a text, two lists: elements that leave what is known -/
theorem ev_gxL (h : Ev tl σ H (.ref a)) (hx : SqL K H a xs) (hT : Tab H P) (ok : okc xs.length vals r) (hw : ∀ x, wipe ((wipe σ vs).set j (some x)) vs = wipe σ vs) (he : ∀ (i : Nat) (x : V) H1, Ex H H1 → xs[i]? = some x → Ev te ((wipe σ vs).set j (some x)) H1 (vals i)) : Ev (tGX P okc (iList K tl) (gName j) te vs) σ H r := fun H1 e Q q =>
  h H1 e _ fun H2 e2 => ⟨a, rfl, ⟨xs, ex_l (e.trans e2) hx⟩, hT.mono (e.trans e2), xs.length, vals, r, fun _ H' => Ex H2 H', ok, Ex.refl _, fun i H' hi w => ⟨⟨xs, xs[i], ex_l ((e.trans e2).trans w) hx, List.getElem?_eq_getElem hi⟩, fun x H3 hy => by
    obtain ⟨rfl, hy⟩ := hy
    exact ⟨hw x, he i x _ ((e.trans e2).trans w) (hy xs (ex_l ((e.trans e2).trans w) hx)) _ (Ex.refl _) _ fun H4 e4 => ⟨rfl, w.trans e4⟩⟩⟩, fun H' w => ⟨xs, ex_l ((e.trans e2).trans w) hx, Nat.le_refl _⟩, fun i H' _ w => q H' (e2.trans w)⟩
theorem ev_gxT (h : Ev tl σ H (.ref a)) (hx : SqT K H a xs) (hT : Tab H P) (ok : okc xs.length vals r) (hw : ∀ x, wipe ((wipe σ vs).set j (some x)) vs = wipe σ vs) (he : ∀ (i : Nat) (x : V) H1, Ex H H1 → xs[i]? = some x → Ev te ((wipe σ vs).set j (some x)) H1 (vals i)) : Ev (tGX P okc (iTup K tl) (gName j) te vs) σ H r := fun H1 e Q q =>
  h H1 e _ fun H2 e2 => ⟨a, rfl, ⟨xs, ex_t (e.trans e2) hx⟩, hT.mono (e.trans e2), xs.length, vals, r, fun _ H' => Ex H2 H', ok, Ex.refl _, fun i H' hi w => ⟨⟨xs, xs[i], ex_t ((e.trans e2).trans w) hx, List.getElem?_eq_getElem hi⟩, fun x H3 hy => by
    obtain ⟨rfl, hy⟩ := hy
    exact ⟨hw x, he i x _ ((e.trans e2).trans w) (hy xs (ex_t ((e.trans e2).trans w) hx)) _ (Ex.refl _) _ fun H4 e4 => ⟨rfl, w.trans e4⟩⟩⟩, fun H' w => ⟨xs, ex_t ((e.trans e2).trans w) hx, Nat.le_refl _⟩, fun i H' _ w => q H' (e2.trans w)⟩
theorem ev_gxR {n : Int} (h : EvA ta σ H [.int n]) (hn : 0 ≤ n ∧ n ≤ 100000) (hT : Tab H P) (ok : okc n.toNat vals r) (hw : ∀ x, wipe ((wipe σ vs).set j (some x)) vs = wipe σ vs) (he : ∀ (i : Nat) H1, Ex H H1 → (i : Int) < n → Ev te ((wipe σ vs).set j (some (.int (i : Int)))) H1 (vals i)) : Ev (tGX P okc (iRng1 ta) (gName j) te vs) σ H r := fun H1 e Q q =>
  h H1 e _ fun H2 e2 => ⟨n, rfl, by omega, by omega, hT.mono (e.trans e2), n.toNat, vals, r, fun _ H' => Ex H2 H', ok, Ex.refl _, fun i H' hi w => ⟨hi, fun x H3 hy => by
    obtain ⟨rfl, rfl⟩ := hy
    rw [Int.zero_add]
    exact ⟨hw _, he i _ ((e.trans e2).trans w) (by omega) _ (Ex.refl _) _ fun H4 e4 => ⟨rfl, w.trans e4⟩⟩⟩, fun H' w => Nat.le_refl _, fun i H' _ w => q H' (e2.trans w)⟩
theorem ev_gxS {z : Str} (h : Ev tl σ H (.str z)) (hT : Tab H P) (ok : okc z.cps.size vals r) (hw : ∀ x, wipe ((wipe σ vs).set j (some x)) vs = wipe σ vs) (he : ∀ (i : Nat) (c : Nat) H1, Ex H H1 → z.cps[i]? = some c → Ev te ((wipe σ vs).set j (some (.str ⟨#[c]⟩))) H1 (vals i)) : Ev (tGX P okc (iStr tl) (gName j) te vs) σ H r := fun H1 e Q q =>
  h H1 e _ fun H2 e2 => ⟨z, rfl, hT.mono (e.trans e2), z.cps.size, vals, r, fun _ H' => Ex H2 H', ok, Ex.refl _, fun i H' hi w => ⟨hi, fun x H3 hy => by
    obtain ⟨rfl, c, hc, rfl⟩ := hy
    exact ⟨hw _, he i c _ ((e.trans e2).trans w) hc _ (Ex.refl _) _ fun H4 e4 => ⟨rfl, w.trans e4⟩⟩⟩, fun H' w => Nat.le_refl _, fun i H' _ w => q H' (e2.trans w)⟩
/-- over zip of two lists -/
theorem ev_gxZ {n : Nat} (h : EvA ta σ H [.ref a, .ref b]) (hx : SqL K H a xs) (hy : SqL K H b ys) (hn : n = min xs.length ys.length) (hT : Tab H P) (ok : okc n vals r) (hw : ∀ x y, wipe (((wipe σ vs).set j (some x)).set j2 (some y)) vs = wipe σ vs)
    (he : ∀ (i : Nat) (x y : V) H1, Ex H H1 → xs[i]? = some x → ys[i]? = some y → Ev te (((wipe σ vs).set j (some x)).set j2 (some y)) H1 (vals i)) : Ev (tGX P okc (iZip K ta) (gTup K 2 (gCons (gName j) (gCons (gName j2) gNil))) te vs) σ H r := fun H1 e Q q =>
  h H1 e _ fun H2 e2 => ⟨a, b, xs, ys, rfl, ex_l (e.trans e2) hx, ex_l (e.trans e2) hy, hT.mono (e.trans e2), n, vals, r, fun _ H' => Ex H2 H', ok, Ex.refl _, fun i H' hi w => ⟨⟨xs, ys, xs[i]'(by omega), ys[i]'(by omega), ex_l ((e.trans e2).trans w) hx, ex_l ((e.trans e2).trans w) hy, List.getElem?_eq_getElem _, List.getElem?_eq_getElem _⟩, fun x H3 hz => by
    obtain ⟨T, x1, y1, rfl, hT1, rfl, h1, h2⟩ := hz
    have e3 := ((e.trans e2).trans w).trans (Ex.new (o := .tup [x1, y1]) hT1)
    refine ⟨T, _, rfl, st_of upd_same, rfl, _, _, rfl, _, _, rfl, rfl, hw x1 y1, ?_⟩
    exact he i x1 y1 _ e3 (h1 xs (ex_l ((e.trans e2).trans w) hx)) (h2 ys (ex_l ((e.trans e2).trans w) hy)) _ (Ex.refl _) _ fun H4 e4 => ⟨rfl, (w.trans (Ex.new hT1)).trans e4⟩⟩, fun H' w => ⟨xs, ys, ex_l ((e.trans e2).trans w) hx, ex_l ((e.trans e2).trans w) hy, by omega⟩, fun i H' _ w => q H' (e2.trans w)⟩
theorem ok_all {n : Nat} (f : Nat → Bool) : okAll n (fun i => .bl (f i)) (.bl (allF n f)) := ⟨f, rfl, rfl⟩
theorem ok_any {n : Nat} (f : Nat → Bool) : okAny n (fun i => .bl (f i)) (.bl (anyF n f)) := ⟨f, rfl, rfl⟩
theorem ok_sum {n : Nat} (f : Nat → Int) (h : ∀ j, j < n → InLong (f j) ∧ InLong (preSum f (j + 1))) : okSum n (fun i => .int (f i)) (.int (preSum f n)) := ⟨f, rfl, rfl, h⟩
theorem ok_max {n : Nat} (f : Nat → Int) (h : 0 < n) : okMax n (fun i => .int (f i)) (.int (topI f (n - 1))) := ⟨f, rfl, rfl, h⟩
/-- sum(a new list of ints) -/
theorem ev_sumN {ns : List Int} (h : EvL te σ H (ns.map V.int)) : Ev (tCB (rSum K) (tCons te tNil)) σ H (.int ns.sum) := fun H1 e Q q =>
  h H1 e _ fun p H2 _ e2 h2 => ⟨p, ns, rfl, sq_of h2, q H2 e2⟩
end
end LV
namespace LV
open PySem PySem.Spec PyProof.Rows L2 Evl LT LG LH LP StX
section
variable {K : PySem.W.Frag} {σ : L2.St} {H H' : Hp} {tl te ta tb : TE} {t : TA} {p l : Addr} {xs ys : List V} {v : V} {D : Ends} {tz : TS}
theorem ea_starT (h : Ev te σ H (.ref p)) (hx : SqT K H p xs) (hr : EvA t σ H ys) : EvA (tStar K te t) σ H (xs ++ ys) := fun H1 e Q q =>
  h H1 e _ fun H2 e2 => ⟨p, xs, rfl, .inl (ex_t (e.trans e2) hx), hr H2 (e.trans e2) _ fun H3 e3 => q H3 (e2.trans e3)⟩
theorem ea_starN (h : EvL te σ H xs) (hr : EvA t σ H ys) : EvA (tStar K te t) σ H (xs ++ ys) := fun H1 e Q q =>
  h H1 e _ fun p H2 _ e2 h2 => ⟨p, xs, rfl, .inr (sq_of h2), hr H2 (e.trans e2) _ fun H3 e3 => q H3 (e2.trans e3)⟩
theorem cut_mid (xs : List V) {i j : Nat} (h : i ≤ j) (hj : j ≤ xs.length) : cutV xs (some (i : Int)) (some (j : Int)) = (xs.drop i).take (j - i) := by
  unfold cutV
  rw [HT.sIx_nat, HT.sIx_nat]; try rw [show min j xs.length = j from Nat.min_eq_left hj]
  rw [show min i xs.length = i from Nat.min_eq_left (Nat.le_trans h hj)]
/-- xs[i] of a new list -/
theorem ev_ixN {i : Int} (ha : EvL ta σ H xs) (hb : ∀ H1, Ex H H1 → Ev tb σ H1 (.int i)) (h : atI xs i = some v) : Ev (tOp (rIxL K) ta tb) σ H v := ev_opL1 ha hb fun p H1 h1 _ => rv_ixL (sq_of h1) h
/-- tuple(a list that stands or is new) is eu_tupL; of a tuple: the same -/
theorem ev_tupT (h : Ev te σ H (.ref p)) (hx : SqT K H p xs) : Ev (tCB (fun zs H Q => ∃ p ys, zs = [.ref p] ∧ ((SqL K H p ys ∧ ∀ l, H l = none → Q (.ref l) (upd H l (.tup ys))) ∨ (SqT K H p ys ∧ Q (.ref p) H))) (tCons te tNil)) σ H (.ref p) := fun H1 e Q q =>
  h H1 e _ fun H2 e2 => ⟨p, xs, rfl, .inr ⟨ex_t (e.trans e2) hx, q H2 e2⟩⟩
theorem ev_lenL (ha : Ev te σ H (.ref p)) (h : H p = some (.lst xs)) : Ev (tCB (rLenS K) (tCons te tNil)) σ H (.int (xs.length : Int)) := ev_len ha (sq_of h)
/-- a tuple made of a new tuple and .. -/
theorem q_appUL {ys : List V} (hl : H l = some (.lst xs)) (ha : Ev ta σ H (.ref l)) (h : EvU te σ H ys) (hz : xs.length < 100000) (k : ∀ p H1, H p = none → Ex H H1 → H1 p = some (.tup ys) → tz D σ (upd H1 l (.lst (xs ++ [.ref p])))) :
    tSeq (tDrop (tBM K "list" rAppend ta (tCons te tNil))) tz D σ H := q_appU hl ha h hz k
end
/-! ### heaps in which one object may change -/
def Bx (p : Addr) (H H' : Hp) : Prop := ∀ a o, a ≠ p → H a = some o → H' a = some o
theorem Bx.of {p : Addr} {H H' : Hp} (e : Ex H H') : Bx p H H' := fun a o _ h => e a o h
theorem Bx.trans {p : Addr} {H H1 H2 : Hp} (e : Bx p H H1) (f : Bx p H1 H2) : Bx p H H2 := fun a o n h => f a o n (e a o n h)
theorem Bx.up {p : Addr} {H H' : Hp} {o : HO} (e : Bx p H H') : Bx p H (upd H' p o) := fun a u n h => by
  rw [upd_ne n]
  exact e a u n h
theorem Bx.ex {p : Addr} {H0 H H' : Hp} (e : Ex H0 H) (f : Bx p H H') (n : H0 p = none) : Ex H0 H' := fun a o h => f a o (fun z => by rw [z, n] at h; cases h) (e a o h)
theorem Bx.back {p q : Addr} {H H' : Hp} (e : Bx p H H') (n : q ≠ p) (h : H' q = none) : H q = none := by
  cases h1 : H q with
  | none => rfl
  | some o =>
    rw [e q o n h1] at h
    cases h
end LV
namespace LV
open PySem PySem.Spec PyProof.Rows L2 Evl LT LG LH LP StX
section
variable {σ : L2.St} {H : Hp} {t1 t2 te : TE} {v1 v2 : V} {xs ys : List V} {sp : Sp} {E : XK} {D : Ends} {tz : TS}
/-- x = f(e, a new list) -/
theorem q_call2L {i : Nat} (h1 : Ev t1 σ H v1) (h2 : EvL te σ H xs) (k : ∀ c H1, H c = none → Ex H H1 → H1 c = some (.lst xs) → sp [v1, .ref c] H1 (fun v H2 => tz D (σ.set i (some v)) H2) E) : tSeq (tAsg (tCall sp [] E (tCons t1 (tCons te tNil))) (gName i)) tz D σ H :=
  h1 H (Ex.refl _) _ fun H1 e1 => h2 H1 e1 _ fun c H2 hc e2 h3 => k c H2 (fresh_back e1 hc) (e1.trans e2) h3
theorem ev_is' (h : EvU te σ H xs) (e : xs = ys) : EvU te σ H ys := by
  rw [← e]
  exact h
end
end LV
namespace LV
open PySem PySem.Spec PyProof.Rows L2 Evl LT LG LH LP StX
/-! ### a heap without some of its objects -/
def frz (S : List Addr) (H : Hp) : Hp := fun a => if a ∈ S then none else H a
theorem frz_ne {S : List Addr} {H : Hp} {a : Addr} (h : a ∉ S) : frz S H a = H a := if_neg h
theorem frz_upd {S : List Addr} {H : Hp} {a : Addr} {o : HO} (h : a ∈ S) : frz S (upd H a o) = frz S H := funext fun b => by
  unfold frz
  by_cases hb : b ∈ S
  · rw [if_pos hb, if_pos hb]
  · rw [if_neg hb, if_neg hb, upd_ne fun z => hb (by rw [z]; exact h)]
theorem frz_ex {S : List Addr} {H : Hp} : Ex (frz S H) H := fun a o h => by
  unfold frz at h
  by_cases hb : a ∈ S
  · rw [if_pos hb] at h
    cases h
  · rw [if_neg hb] at h
    exact h
theorem ex_frz {S : List Addr} {H H' : Hp} (e : Ex H H') : Ex (frz S H) (frz S H') := fun a o h => by
  unfold frz at h ⊢
  by_cases hb : a ∈ S
  · rw [if_pos hb] at h
    cases h
  · rw [if_neg hb] at h ⊢
    exact e _ _ h
theorem frz_some {S : List Addr} {H : Hp} {a : Addr} {o : HO} (h : frz S H a = some o) : a ∉ S ∧ H a = some o := by
  unfold frz at h
  by_cases hb : a ∈ S
  · rw [if_pos hb] at h
    cases h
  · rw [if_neg hb] at h
    exact ⟨hb, h⟩
theorem Bx.mut {p w : Addr} {H H' : Hp} {o : HO} (e : Bx p H H') (h : H w = none) : Bx p H (upd H' w o) := fun a u n ha => by
  rw [upd_ne fun z => by rw [z, h] at ha; cases ha]
  exact e a u n ha
theorem Bx.l {K : PySem.W.Frag} {p a : Addr} {H H' : Hp} {xs : List V} (e : Bx p H H') (n : a ≠ p) (h : SqL K H a xs) : SqL K H' a xs := by
  rcases h with (h | ⟨o, h⟩) | h
  · exact .inl (.inl (e _ _ n h))
  · exact .inl (.inr ⟨o, e _ _ n h⟩)
  · exact .inr h
end LV
namespace LV
open PySem PySem.Spec PyProof.Rows L2 Evl LT LG LH LP StX
/-- what a for over the list a asks -/
abbrev FB (K : PySem.W.Frag) (a : Addr) (g : TG) (tb : TS) (D : Ends) (σ : L2.St) (H : Hp) : Prop := ∃ W : Nat → Nat → L2.St → Hp → Prop, (∃ m, W 0 m σ H) ∧ ∀ i m σ H, W i m σ H →
  ((Itl K a).stop i H ∧ D.nx σ H) ∨ ((Itl K a).go i H ∧ ∃ N : L2.St → Hp → Prop, (∀ σ' H', N σ' H' → ∃ m', m' < m ∧ W (i + 1) m' σ' H') ∧ ∀ x H', (Itl K a).yld i H x H' → g x σ H' fun σ2 H2 => tb { D with nx := N, ct := N, bk := D.nx } σ2 H2)
/-- for .. in f(..): the call makes a list -/
theorem s_forCall {K : PySem.W.Frag} {σ : L2.St} {H : Hp} {g : TG} {tb : TS} {D : Ends} {sp : Sp} {E : XK} {tr : TA} {vs : List V} (h : EvA tr σ H vs) (k : ∀ H1, Ex H H1 → sp vs H1 (fun x H2 => ∃ a, x = V.ref a ∧ (∃ xs, SqL K H2 a xs) ∧ FB K a g tb D σ H2) E) : tFor (iList K (tCall sp [] E tr)) g tb D σ H :=
  h H (Ex.refl _) _ fun H1 e1 => by
    rw [List.append_nil]
    exact k H1 e1
theorem q_forCall {K : PySem.W.Frag} {σ : L2.St} {H : Hp} {g : TG} {tb tz : TS} {D : Ends} {sp : Sp} {E : XK} {tr : TA} {vs : List V} (h : EvA tr σ H vs) (k : ∀ H1, Ex H H1 → sp vs H1 (fun x H2 => ∃ a, x = V.ref a ∧ (∃ xs, SqL K H2 a xs) ∧ FB K a g tb { D with nx := tz D } σ H2) E) : tSeq (tFor (iList K (tCall sp [] E tr)) g tb) tz D σ H := s_forCall (D := { D with nx := tz D }) h k
section
variable {P : Program} {w : World} {K : PySem.W.Frag} {mg : Str → Option Value} {base : Heap}
/-- as FunC.ok, for a def that may raise -/
theorem _root_.LS.FunC.okX {x qual : Str} {st : Stmt} {f c : Addr} {fd : FuncData} {N ps : List Str} {k : Nat} {sp : Sp} (F : LS.FunC K x qual st f fd c) (S : FnScope N ps (defScope st)) (len : ∀ vs H Q E, sp vs H Q E → vs.length = ps.length)
    (hbody : ∀ (A : Around) (outer : List Env) (s : Shared) (H : Hp) (vs : List V) (Q : VK) (E : XK), Room k (A.deeper (envOfC qual (defScope st) s.heap.objs.size f (.ref c))) → sp vs H Q E →
      ∃ t, PSs (cxOf (L2.CX P w) P w K mg base N qual (defScope st) f (.ref c) A outer s H E) (defBody st) t ∧ t { nx := fun _ H' => Q .non H', rt := Q } (start N vs) H) : FnOk P w K mg base (L2.CX P w) (k + 1) f fd ps sp := by
  obtain ⟨oc, od, kV, doc, pm, an, ct, osl, rfl, lk, hcd⟩ := F.ex
  exact fn_of lk hcd S len fun A outer s H vs Q E hr hsp => hbody A outer s H vs Q E hr hsp
end
end LV

set_option Elab.async false
set_option linter.all false
set_option maxRecDepth 100000
set_option maxHeartbeats 4000000
namespace LD
open PySem PySem.Spec PyProof.Rows L2 Evl LT LG LH LV LP LO
/-! ### a dict with int keys that stands at d -/
section
variable {K : PySem.W.Frag} {σ : L2.St} {H : Hp} {td tk te tl : TE} {d : Addr} {kvs : List (Key × V)} {z : Int} {v : V} {D : Ends} {tz : TS}
theorem ev_dIn (hk : Ev tk σ H (.int z)) (hd : Ev td σ H (.ref d)) (h : H d = some (.dK kvs)) : Ev (tDIn tk td) σ H (.bl (valV kvs (.inl z)).isSome) := fun H1 e Q q =>
  hk H1 e _ fun H2 e2 => hd H2 (e.trans e2) _ fun H3 e3 => ⟨d, _, rfl, DGet.k (k := Sum.inl z) (((e.trans e2).trans e3) _ _ h), q H3 (e2.trans e3)⟩
theorem ev_dNi (hk : Ev tk σ H (.int z)) (hd : Ev td σ H (.ref d)) (h : H d = some (.dK kvs)) : Ev (tDNotIn tk td) σ H (.bl (!(valV kvs (.inl z)).isSome)) := fun H1 e Q q =>
  hk H1 e _ fun H2 e2 => hd H2 (e.trans e2) _ fun H3 e3 => ⟨d, _, rfl, DGet.k (k := Sum.inl z) (((e.trans e2).trans e3) _ _ h), q H3 (e2.trans e3)⟩
theorem ev_dget (hd : Ev td σ H (.ref d)) (hk : Ev tk σ H (.int z)) (h : H d = some (.dK kvs)) (hv : valV kvs (.inl z) = some v) : Ev (tDGet td tk) σ H v := fun H1 e Q q =>
  hd H1 e _ fun H2 e2 => hk H2 (e.trans e2) _ fun H3 e3 => ⟨d, v, rfl, by rw [← hv]; exact DGet.k (k := Sum.inl z) (((e.trans e2).trans e3) _ _ h), q H3 (e2.trans e3)⟩
theorem s_dputU {xs : List V} (hv : EvU te σ H xs) (hd : Ev td σ H (.ref d)) (hk : Ev tk σ H (.int z)) (h : H d = some (.dK kvs)) (hl : kvs.length < 100000) (k : ∀ p H1, H p = none → Ex H H1 → H1 p = some (.tup xs) → D.nx σ (upd H1 d (.dK (putK kvs (.inl z) (.ref p))))) : sDPut td tk te D σ H :=
  hv H (Ex.refl _) _ fun p H1 hp e1 h1 => hd H1 e1 _ fun H2 e2 => hk H2 (e1.trans e2) _ fun H3 e3 => ⟨d, _, rfl, DPut.k (k := Sum.inl z) (((e1.trans e2).trans e3) _ _ h) (sz_lt hl), k p H3 hp ((e1.trans e2).trans e3) (e3 _ _ (e2 _ _ h1))⟩
theorem s_dputL' {xs : List V} (hv : EvL te σ H xs) (hd : Ev td σ H (.ref d)) (hk : Ev tk σ H (.int z)) (h : H d = some (.dK kvs)) (hl : kvs.length < 100000) (k : ∀ p H1, H p = none → Ex H H1 → H1 p = some (.lst xs) → D.nx σ (upd H1 d (.dK (putK kvs (.inl z) (.ref p))))) : sDPut td tk te D σ H :=
  hv H (Ex.refl _) _ fun p H1 hp e1 h1 => hd H1 e1 _ fun H2 e2 => hk H2 (e1.trans e2) _ fun H3 e3 => ⟨d, _, rfl, DPut.k (k := Sum.inl z) (((e1.trans e2).trans e3) _ _ h) (sz_lt hl), k p H3 hp ((e1.trans e2).trans e3) (e3 _ _ (e2 _ _ h1))⟩
theorem s_ddel (hd : Ev td σ H (.ref d)) (hk : Ev tk σ H (.int z)) (h : H d = some (.dK kvs)) (hv : (valV kvs (.inl z)).isSome = true) (k : ∀ H1, Ex H H1 → D.nx σ (upd H1 d (.dK (dropK kvs (.inl z))))) : sDDel td tk D σ H :=
  hd H (Ex.refl _) _ fun H1 e1 => hk H1 e1 _ fun H2 e2 => ⟨d, kvs, .inl z, rfl, (e1.trans e2) _ _ h, rfl, hv, k H2 (e1.trans e2)⟩
/-- a lock is taken and given back -/
theorem ex_unlock {H H2 : Hp} {u : HO} {od : Obj} (hd : H d = some u) (e : Ex (upd H d (.frz od u)) H2) : Ex H (upd H2 d u) := fun a o h => by
  by_cases ha : a = d
  · rw [ha, upd_same, ← hd, ← ha]
    exact h
  · rw [upd_ne ha]
    exact e _ _ (by rw [upd_ne ha]; exact h)
theorem ev_lock {u : HO} (hd : H d = some u) (mu : Mut (some u)) (h : ∀ od H1, Ex H H1 → Ev te σ (upd H1 d (.frz od u)) v) : Ev (tLockE te) σ H v := fun H1 e Q q =>
  ⟨d, u, e _ _ hd, mu, fun od => h od H1 e _ (Ex.refl _) _ fun H2 e2 => ⟨e2 _ _ upd_same, q _ (ex_unlock (e _ _ hd) e2)⟩⟩
/-- over the values of a dict -/
theorem ev_gxV {P : Addr} {okc : Nat → (Nat → V) → V → Prop} {vals : Nat → V} {r : V} {j : Nat} {vs : List Nat} (hd : H d = some (.dK kvs)) (h : ∀ od H1, Ex H H1 → Ev tl σ (upd H1 d (.frz od (.dK kvs))) (.ref d)) (hT : Tab H P) (hPd : P ≠ d) (ok : okc kvs.length vals r) (hw : ∀ x, wipe ((wipe σ vs).set j (some x)) vs = wipe σ vs)
    (he : ∀ (i : Nat) (k : Key) (x : V) od H1 H2, Ex H H1 → Ex (upd H1 d (.frz od (.dK kvs))) H2 → kvs[i]? = some (k, x) → Ev te ((wipe σ vs).set j (some x)) H2 (vals i)) : Ev (tLockE (tGX P okc (iVals tl) (gName j) te vs)) σ H r :=
  ev_lock hd True.intro fun od H0 e0 H1 e1 Q q => h od H0 e0 H1 e1 _ fun H2 e2 => by
    have e12 := e1.trans e2
    refine ⟨d, od, kvs, rfl, e12 _ _ upd_same, e12 _ _ (by rw [upd_ne hPd]; exact e0 _ _ hT), kvs.length, vals, r, fun _ H' => Ex H2 H', ok, Ex.refl _, fun i H' hi w => ⟨⟨w _ _ (e12 _ _ upd_same), hi⟩, fun x H3 hy => ?_⟩, fun H' w => ⟨w _ _ (e12 _ _ upd_same), Nat.le_refl _⟩, fun i H' _ w => q H' (e2.trans w)⟩
    obtain ⟨rfl, k, hk⟩ := hy
    exact ⟨hw x, he i k x od H0 _ e0 (e12.trans w) hk _ (Ex.refl _) _ fun H4 e4 => ⟨rfl, w.trans e4⟩⟩
/-- sorted(d): the keys, each once -/
theorem el_sortedD {ks : List Int} {ns : List Int} (h : Ev te σ H (.ref d)) (hd : H d = some (.dK kvs)) (hks : kvs.map (·.1) = ks.map Sum.inl) (h64 : ks.length < 64) (hs : ∀ ys : List Int, ys.Perm ks → ys.Pairwise (· ≤ ·) → ys = ns) : EvL (tCB (fun xs H Q => ∃ (a : Addr) (kvs : List (Key × V)) (ks : List Int), xs = [.ref a] ∧ Rd H a (.dK kvs) ∧ kvs.map (·.1) = ks.map Sum.inl ∧ ks.length < 64 ∧
    ∀ (ys : List Int) (p : Addr), ys.Perm ks → ys.Pairwise (· ≤ ·) → H p = none → Q (.ref p) (upd H p (.lst (ys.map V.int)))) (tCons te tNil)) σ H (ns.map V.int) := fun H1 e Q q =>
  h H1 e _ fun H2 e2 => ⟨d, kvs, ks, rfl, .inl (e2 _ _ (e _ _ hd)), hks, h64, fun ys p h1 h2 hp => q p _ (fresh_back e2 hp) (e2.trans (Ex.new hp)) (by rw [upd_same, hs ys h1 h2])⟩
end
/-- a sorted list of the same numbers is the same list -/
theorem sorted_uni : ∀ {a b : List Int}, a.Perm b → a.Pairwise (· ≤ ·) → b.Pairwise (· ≤ ·) → a = b
  | [], b, p, _, _ => p.nil_eq
  | x :: r, b, p, h1, h2 => by
    cases b with
    | nil => exact absurd p.symm.nil_eq (by simp)
    | cons y t =>
      have hx : x ∈ y :: t := p.mem_iff.mp List.mem_cons_self
      have hy : y ∈ x :: r := p.mem_iff.mpr List.mem_cons_self
      have e : x = y := by
        rcases List.mem_cons.mp hx with e | hx
        · exact e
        · rcases List.mem_cons.mp hy with e | hy
          · exact e.symm
          · have a1 := (List.pairwise_cons.mp h1).1 y hy
            have a2 := (List.pairwise_cons.mp h2).1 x hx
            omega
      subst e
      rw [sorted_uni (p.cons_inv) (List.pairwise_cons.mp h1).2 (List.pairwise_cons.mp h2).2]
/-! ### the keys of a dict that is put to, that is dropped from -/
theorem put_keys {kvs : List (Key × V)} {k : Key} {v : V} (h : valV kvs k = none) : putK kvs k v = kvs ++ [(k, v)] := by
  unfold putK
  rw [valV_any, h]
  rfl
theorem valV_drop (kvs : List (Key × V)) (k j : Key) : valV (dropK kvs k) j = if j = k then none else valV kvs j := by
  induction kvs with
  | nil =>
    show valV [] j = _
    rw [valV_nil]
    split <;> rfl
  | cons p r ih =>
    unfold dropK at ih ⊢
    by_cases hp : p.1 = k
    · rw [List.filter_cons_of_neg (by simpa using hp), ih]
      by_cases hj : j = k
      · rw [if_pos hj, if_pos hj]
      · rw [if_neg hj, if_neg hj, valV_neg (fun e => hj (by rw [← e, hp]))]
    · rw [List.filter_cons_of_pos (by simpa using hp)]
      by_cases hj : p.1 = j
      · rw [valV_pos hj, valV_pos hj, if_neg (fun e => hp (by rw [hj, e]))]
      · rw [valV_neg hj, valV_neg hj, ih]
end LD

set_option Elab.async false
set_option linter.all false
set_option maxRecDepth 100000
set_option maxHeartbeats 4000000
namespace LZ
open PySem PySem.Spec PyProof.Rows L2 Evl LT LG LH LP StX
/-! ### zip of a tuple and a list -/
def ItM (K : PySem.W.Frag) (a b : Addr) : It where
  go := fun i H => ∃ (us vs : List V) (m n : V), SqT K H a us ∧ SqL K H b vs ∧ us[i]? = some m ∧ vs[i]? = some n
  yld := fun i H v G => ∃ T m n, v = .ref T ∧ H T = none ∧ G = upd H T (.tup [m, n]) ∧ (∀ us, SqT K H a us → us[i]? = some m) ∧ ∀ vs, SqL K H b vs → vs[i]? = some n
  stop := fun i H => ∃ us vs : List V, SqT K H a us ∧ SqL K H b vs ∧ i ≤ us.length ∧ i ≤ vs.length ∧ (i = us.length ∨ i = vs.length)
theorem sep_of {z TI TO i1 i2 a b : Addr} (D : ZipApart z TI TO i1 i2 a b) : ZipSep2 z TI TO i1 i2 [i1, a] [i2, b] where
  TIz := D.TIz
  TOz := D.TOz
  TITO := D.TITO
  TIi1 := D.TIi1
  mem1 := List.mem_cons_self
  zf1 := by simp [D.i1z.symm, D.l1z.symm]
  Tf1 := by simp [D.TOi1, D.l1TO.symm]
  TIi2 := D.TIi2
  mem2 := List.mem_cons_self
  zf2 := by simp [D.i2z.symm, D.l2z.symm]
  Tf2 := by simp [D.TOi2, D.l2TO.symm]
  sep1_2 := by simp [D.i12, D.l2i1.symm]
  sep2_1 := by simp [D.i12.symm, D.l1i2.symm]
def stM (z TI TO i1 i2 a b : Addr) (k : Nat) (g : Heap) : Prop := IsZip g z TI TO .none ∧ IsTupOf2 g TI (.ref i1) (.ref i2) ∧ (∃ m n, IsTupOf2 g TO m n) ∧ g.IsTupleIter i1 a k ∧ g.IsListIter i2 b k
theorem in5 {c z TI TO i1 i2 : Addr} (h : c ∈ [z, TI, TO, i1, i2]) : c = z ∨ c = TI ∨ c = TO ∨ c = i1 ∨ c = i2 := by
  simpa only [List.mem_cons, List.not_mem_nil, or_false] using h
theorem turn_zipM {P : Program} {w : World} {K : PySem.W.Frag} {elts : List Expr} {kk : Nat} {tpos : Pos} {a b z TI TO i1 i2 : Addr} (D : ZipApart z TI TO i1 i2 a b) : Turn P w K (.Tuple elts kk tpos) (ItM K a b) [z, TI, TO, i1, i2] z (stM z TI TO i1 i2 a b) where
  mem := List.mem_cons_self
  obj := by
    rintro k g ⟨A1, A2, ⟨m, n, A3⟩, ⟨u1, B1, -, C1⟩, ⟨u2, B2, -, C2⟩⟩ c hc
    rcases in5 hc with rfl | rfl | rfl | rfl | rfl
    · exact ⟨_, A1, fun v e => by cases e⟩
    · exact ⟨_, A2, fun v e => by cases e⟩
    · exact ⟨_, A3, fun v e => by cases e⟩
    · exact ⟨u1, B1, fun v e => by rw [C1] at e; cases e⟩
    · exact ⟨u2, B2, fun v e => by rw [C2] at e; cases e⟩
  keep := by
    rintro k g g' ⟨A1, A2, ⟨m, n, A3⟩, B1, B2⟩ kp
    exact ⟨kp z (by simp) _ A1, kp TI (by simp) _ A2, ⟨m, n, kp TO (by simp) _ A3⟩, B1.at (kp i1 (by simp)), B2.at (kp i2 (by simp))⟩
  item := by
    rintro X rfl rfl rfl hC k pins st τ G E Iv fpo ⟨A1, A2, ⟨m0, n0, A3⟩, B1, B2⟩ ⟨us, vs, m, n, qa, qb, em, en⟩
    have hh : X.A.in1.handled = none := Iv.ok.hd hC
    obtain ⟨ia, ra, ta, -⟩ := Iv.tuple qa
    obtain ⟨ib, rb, lb, -⟩ := Iv.list qb
    obtain ⟨u, hu, ru⟩ := ra.get em
    obtain ⟨v, hv, rv⟩ := rb.get en
    have zl := Heap.lt_size A1
    have ka : k < ia.toArray.size := by
      have := (List.getElem?_eq_some_iff.mp hu).1
      simpa using this
    have kb : k < ib.toArray.size := by
      have := (List.getElem?_eq_some_iff.mp hv).1
      simpa using this
    refine wpAny_pyNext_zipD2_item (sep_of D) (Draws.tuple hh i1 a D.l1i1 ia.toArray) (Draws.list hh i2 b D.l2i2 ib.toArray) A1 A2 A3 ⟨B1, ta⟩ ⟨B2, lb.isList⟩ ka kb fun x1 x2 g tk e1 e2 z1 O1 S1 S2 hT hs kp => ?_
    obtain rfl : u = x1 := by
      have : some u = some x1 := by rw [← hu, ← e1]; simp
      exact Option.some.inj this
    obtain rfl : v = x2 := by
      have : some v = some x2 := by rw [← hv, ← e2]; simp
      exact Option.some.inj this
    refine ⟨_, rfl, wpAny_letOwnedTupleGo_zip (s := { st with heap := g, toks := tk }) z1 fun g2 z2 sb => ?_⟩
    have hT2 : IsTupOf2 g2 st.heap.objs.size u v := (sb.2 _ (Nat.ne_of_gt zl)).trans hT
    have nw : ObjOk X.prog X.w (upd G st.heap.objs.size (.tup [m, n])) g2 st.heap.objs.size (.tup [m, n]) := ⟨Nat.le_of_ble_eq_true rfl, [u, v], .cons ru (.cons rv .nil), _, hT2, rfl, _, rfl⟩
    have old : ∀ c o, c ∉ [z, TI, TO, i1, i2] → st.heap.get? c = some o → g2.get? c = some o := fun c o hc e => by
      simp only [List.mem_cons, List.not_mem_nil, or_false, not_or] at hc
      exact (sb.2 c hc.1).trans (kp c o hc.1 hc.2.2.1 hc.2.2.2.1 hc.2.2.2.2 e)
    have I1 : Inv X pins τ (upd G st.heap.objs.size (.tup [m, n])) { st with heap := g2, toks := tk } := Iv.turnedNew (t' := tk) old fpo (Nat.le_refl _) nw
    refine ⟨.ref _, _, I1, rfl, ⟨_, m, n, rfl, Iv.hok.fresh (Nat.le_refl _), rfl, fun l hl => by rw [Iv.tuple_inj hl qa]; exact em, fun l hl => by rw [Iv.list_inj hl qb]; exact en⟩, ⟨z2, (sb.2 _ D.TIz).trans (kp _ _ D.TIz D.TITO D.TIi1 D.TIi2 A2), ⟨u, v, (sb.2 _ D.TOz).trans O1⟩, S1.1.at fun o e => (sb.2 _ D.i1z).trans e, S2.1.at fun o e => (sb.2 _ D.i2z).trans e⟩, fun c hc => ?_⟩
    have cl : c < st.heap.objs.size := by
      rcases in5 hc with rfl | rfl | rfl | rfl | rfl
      · exact zl
      · exact Heap.lt_size A2
      · exact Heap.lt_size A3
      · obtain ⟨_, e, _⟩ := B1
        exact Heap.lt_size e
      · obtain ⟨_, e, _⟩ := B2
        exact Heap.lt_size e
    rw [upd_ne (Nat.ne_of_lt cl)]
    exact (fpo c hc).1
  done := by
    rintro X rfl rfl rfl hC k pins st τ G E Iv fpo ⟨A1, A2, ⟨m0, n0, A3⟩, B1, B2⟩ ⟨us, vs, qa, qb, la, lb', en⟩
    have hh : X.A.in1.handled = none := Iv.ok.hd hC
    obtain ⟨ia, ra, ta, -⟩ := Iv.tuple qa
    obtain ⟨ib, rb, lb, -⟩ := Iv.list qb
    have r1 := ra.length
    have r2 := rb.length
    refine wpAny_pyNext_zipD2_end (sep_of D) (Draws.tuple hh i1 a D.l1i1 ia.toArray) (Draws.list hh i2 b D.l2i2 ib.toArray) A1 A2 A3 ⟨B1, ta⟩ ⟨B2, lb.isList⟩ (by simp; omega) (by simp; omega) (by simp; omega) fun g tk kp => ⟨rfl, Iv.turnedL (t' := tk) (ch := [z, TI, TO, i1, i2]) (fun c o hc e => ?_) fpo⟩
    simp only [List.mem_cons, List.not_mem_nil, or_false, not_or] at hc
    exact kp c o hc.1 hc.2.2.1 hc.2.2.2.1 hc.2.2.2.2 e
  self := fun _ _ _ _ _ t q => wpAny_pyIter_zip t.1 q
def iZipM (K : PySem.W.Frag) (ta : TA) : TI := fun σ H R => ta σ H fun xs G => ∃ a b us vs, xs = [.ref a, .ref b] ∧ SqT K G a us ∧ SqL K G b vs ∧ R (ItM K a b) G
theorem pi_zipM {X : Cx} {e1 e2 : Expr} {ta : TA} {p pos tpos : Pos} {elts : List Expr} {kk : Nat} (hg : Gl X "zip") (hm : X.mg "zip" = none) (ha : PA X [e1, e2] ta)
    (hs : starEach [e1, e2] X.env = (false, eval e1 X.env) :: starEach [e2] X.env := by rfl) (hp : (backTo pos (starEach [e2] X.env)).any (·.1) = false := by rfl) : PI X (.Tuple elts kk tpos) (.Call (.Name "zip" p) [e1, e2] [] pos) (iZipM X.K ta) where
  run := fun pins s σ H R I h => by
    refine Call_ (ld_blt I hg hm boot_zip (callWith_type1 (thn (ha.run pos pins s σ H _ I h) fun us st ⟨xs, G, Iv, rs, q⟩ => ?_) hs hp))
    obtain ⟨a, b, ua, vb, rfl, qa, qb, q⟩ := q
    cases rs with
    | cons r1 rs =>
      cases rs with
      | cons r2 rs =>
        cases rs
        cases r1
        cases r2
        obtain ⟨ia, ra, ta', -⟩ := Iv.tuple qa
        obtain ⟨ib, rb, lb, -⟩ := Iv.list qb
        obtain ⟨oa, ga, -⟩ := id ta'
        have al := Heap.lt_size ga
        refine zip_begins2 (begins_tuple a ia.toArray) (begins_list b ib.toArray) ta' lb.isList fun g z1 T1 O1 g1 g2 hs kp => wpAny_pyIter_zip z1 ?_
        have I2 : Inv X pins σ G { st with heap := g } := Iv.kept (t' := st.toks) kp
        refine ⟨_, [st.heap.objs.size + 4, st.heap.objs.size + 2, st.heap.objs.size + 3, st.heap.objs.size, st.heap.objs.size + 1], _, _, G, rfl, I2, turn_zipM (PySem.W.ktu_apart st.heap.objs.size a b al lb.lt), ⟨z1, T1, ⟨_, _, O1⟩, ⟨_, g1, rfl, rfl⟩, ⟨_, g2, rfl, rfl⟩⟩, fun c hc => ?_, q⟩
        have cl : st.heap.objs.size ≤ c := by
          rcases in5 hc with rfl | rfl | rfl | rfl | rfl <;> first | exact Nat.le_refl _ | exact Nat.le_add_right _ _
        exact Iv.fpOk cl (Iv.hok.fresh cl)
section
variable {K : PySem.W.Frag} {σ : L2.St} {H : Hp} {te : TE} {ta : TA} {P a b : Addr} {us xs : List V} {okc : Nat → (Nat → V) → V → Prop} {vals : Nat → V} {r : V} {j j2 : Nat} {vs : List Nat}
theorem ev_gxM {n : Nat} (h : EvA ta σ H [.ref a, .ref b]) (ha : SqT K H a us) (hb : SqL K H b xs) (hn : n = us.length) (hl : us.length ≤ xs.length) (hT : Tab H P) (ok : okc n vals r) (hw : ∀ x y, wipe (((wipe σ vs).set j (some x)).set j2 (some y)) vs = wipe σ vs)
    (he : ∀ (i : Nat) (x y : V) H1, Ex H H1 → us[i]? = some x → xs[i]? = some y → Ev te (((wipe σ vs).set j (some x)).set j2 (some y)) H1 (vals i)) : Ev (tGX P okc (iZipM K ta) (gTup K 2 (gCons (gName j) (gCons (gName j2) gNil))) te vs) σ H r := fun H1 e Q q =>
  h H1 e _ fun H2 e2 => by
    have s1 : ∀ {B : Hp}, Ex H2 B → SqT K B a us := fun w => ex_t ((e.trans e2).trans w) ha
    have s2 : ∀ {B : Hp}, Ex H2 B → SqL K B b xs := fun w => ex_l ((e.trans e2).trans w) hb
    refine ⟨a, b, us, xs, rfl, s1 (Ex.refl _), s2 (Ex.refl _), hT.mono (e.trans e2), n, vals, r, fun _ B => Ex H2 B, ok, Ex.refl _, fun i B hi w => ⟨⟨us, xs, us[i]'(by omega), xs[i]'(by omega), s1 w, s2 w, List.getElem?_eq_getElem _, List.getElem?_eq_getElem _⟩, fun x B2 hz => ?_⟩, fun B w => ⟨us, xs, s1 w, s2 w, by omega, by omega, .inl hn⟩, fun i B _ w => q B (e2.trans w)⟩
    obtain ⟨T, x1, y1, rfl, hT1, rfl, h1, h2⟩ := hz
    have e3 := ((e.trans e2).trans w).trans (Ex.new (o := .tup [x1, y1]) hT1)
    exact ⟨T, _, rfl, st_of upd_same, rfl, _, _, rfl, _, _, rfl, rfl, hw x1 y1, he i x1 y1 _ e3 (h1 us (s1 w)) (h2 xs (s2 w)) _ (Ex.refl _) _ fun B4 e4 => ⟨rfl, (w.trans (Ex.new hT1)).trans e4⟩⟩
end
/-! ### a, *b = a tuple -/
section
variable {X : Cx} {pos : Pos}
theorem pgs_star {t : Expr} {es : List Expr} {g : TG} {u : TGs} {p : Pos} (h1 : PG X t g) (h2 : PGs X es u) (hs : (assignEach (.Starred t p :: es) X.env).map (·.2) = assign t X.env :: (assignEach es X.env).map (·.2) := by rfl) : PGs X (.Starred t p :: es) (gCons g u) where
  run := fun pins s σ H vs us Q I r h => by
    obtain ⟨v, vr, rfl, h⟩ := h
    cases r with
    | cons r rr =>
      rw [hs]
      exact assignInOrder_cons (thn (h1.run pins s σ H _ _ _ I r h) fun _ s1 ⟨σ1, H1, I1, q1⟩ => h2.run pins s1 σ1 H1 _ _ Q I1 rr q1)
/-- one name, then the rest as a new list -/
def gStar (K : PySem.W.Frag) (t : TGs) : TG := fun v σ H Q => ∃ a x xs, v = .ref a ∧ SqT K H a (x :: xs) ∧ xs.length ≤ 10000 ∧ ∀ L, H L = none → t [x, .ref L] σ (upd H L (.lst xs)) Q
theorem pg_star {es : List Expr} {k : Nat} {t : TGs} (hc : X.calm = true) (h : PGs X es t) (hn : (assignEach es X.env).length = 2 := by rfl) (hst : (assignEach es X.env).findIdx? (·.1) = some 1 := by rfl) : PG X (.Tuple es k pos) (gStar X.K t) where
  run := fun pins s σ H v u Q I r hw => by
    obtain ⟨a, x, xs, rfl, hq, hz, hw⟩ := hw
    cases r
    obtain ⟨its, rv, ht, -⟩ := I.tuple hq
    have hh : X.A.handled = none := I.ok.hd hc
    have ht : IsTup s.heap a its.toArray := ht
    cases rv with
    | @cons _ y _ ys r1 rs =>
      have ln := rs.length
      rw [assign_Tuple]
      refine wpAny_bind (wpAny_standAt (?_ : wpAny _ _ (unpack _ _) _ _ _))
      unfold unpack
      rw [hn, hst]
      obtain ⟨ao, hao, -⟩ := id ht
      have al := Heap.lt_size hao
      have ane : a ≠ s.heap.objs.size := Nat.ne_of_lt al
      refine wpAny_bind (wpAny_holding (?_ : wpAny _ _ (unpackItems _ _ _) _ _ _))
      unfold unpackItems notIterableAtAll
      refine wpAny_bind (wpAny_bind (wpAny_specialOf ht.typeIs slot_tuple_iter.lookup (wpAny_pure ?_)))
      simp only [Option.isSome_some, if_true, if_false, Bool.false_eq_true]
      refine wpAny_bind (wpAny_holding (iter_tuple ht (?_ : _)))
      refine wpAny_bind (wpAny_holding (draw_tuple ane 1 0 _ _ ⟨_, Heap.get?_push_size _ rfl, rfl, rfl⟩ (ht.push _) (by simp) fun g1 t1 s1 => ?_))
      have ht1 : IsTup g1 a (y :: ys).toArray := (ht.push _).extBut s1.extBut ane
      obtain ⟨o1, ho1, -⟩ := id t1
      obtain ⟨o2, ho2, -⟩ := id ht1
      rw [show List.take 1 (List.drop 0 (y :: ys).toArray.toList) = [y] from rfl, if_neg (show ¬ [y].length < 1 from Nat.lt_irrefl 1)]
      refine wpAny_bind (wpAny_holding (PySem.W.kun_collect (s := { s with heap := g1 }) (T := "tuple_iterator") (.inr (.inr (.inr rfl))) (Walks.tuple (A := X.A.in1) (show X.A.in1.handled = none from hh) s.heap.objs.size a ane (y :: ys).toArray) (fun _ _ q => q.1.typeIs) (k := 1) (by simp) ⟨t1, ht1⟩ (Heap.lt_size ho1) (Heap.lt_size ho2) (fun g2 tk kp => ?_) (by simp; exact sz_of (by omega))))
      rw [show (y :: ys).toArray.toList.drop 1 = ys from rfl]
      rw [if_neg (show ¬ ys.length < 2 - 1 - 1 by omega)]
      have k2 : ∀ b o, s.heap.get? b = some o → g2.get? b = some o := fun b o e => by
        have bl := Heap.lt_size e
        exact kp b o (Nat.ne_of_lt bl) (s1.extBut b o (Nat.ne_of_lt bl) (Heap.get?_push_of_some _ e))
      have I2 : Inv X pins σ H { s with heap := g2, toks := tk } := I.kept (t' := tk) k2
      rw [show ys.length - (2 - 1 - 1) = ys.length from rfl, List.take_length, List.drop_length]
      refine wpAny_bind (m := newList ys) (wpAny_newObj_type (T := "list") ?_ (by show ys.toArray.size ≤ sizeLine; rw [List.size_toArray]; exact sz_of (by omega)))
      refine wpAny_pure ?_
      have fr : H g2.objs.size = none := I2.hok.fresh (Nat.le_refl _)
      have I3 : Inv X pins σ (upd H g2.objs.size (.lst xs)) { s with heap := g2.push { cls := .type "list", data := .seq ys.toArray }, toks := tk } := I2.laid (t' := tk) (fun b u e => Heap.get?_push_of_some _ e) (Nat.le_refl _) ⟨sz_of (by omega), ys, 0, rs, Heap.get?_push_size _ rfl⟩
      exact h.run pins _ σ _ [x, .ref _] [y, .ref _] Q I3 (.cons r1 (.cons rfl .nil)) (hw _ fr)
end
end LZ

set_option Elab.async false
set_option linter.all false
set_option maxRecDepth 100000
set_option maxHeartbeats 4000000
namespace LW
open PySem PySem.Spec PyProof.Rows L2 Evl LT
/-! ### a written dict: numbers to tuples of texts -/
def strsB : List Value → List Str → Bool
  | [], [] => true
  | .str x _ :: us, z :: zs => decide (x = z) && strsB us zs
  | _, _ => false
theorem strsB_ok : ∀ {us : List Value} {zs : List Str}, strsB us zs = true → Vals (zs.map V.str) us
  | [], [], _ => .nil
  | .str x t :: us, z :: zs, h => by
    have h2 := Bool.and_eq_true_iff.mp (show (decide (x = z) && strsB us zs) = true from h)
    obtain rfl : x = z := of_decide_eq_true h2.1
    exact .cons ⟨t, rfl⟩ (strsB_ok h2.2)
def tupB (K : PySem.W.Frag) (v : Value) (zs : List Str) : Bool := match v with
  | .ref t => match K.lookup t with
    | some o => decide (o.cls = .type "tuple") && match o.data with
      | .seq its _ => decide (its.size ≤ 1000) && strsB its.toList zs
      | _ => false
    | none => false
  | _ => false
theorem tupB_ok {K : PySem.W.Frag} {v : Value} {zs : List Str} (h : tupB K v zs = true) : ∃ t, v = .ref t ∧ ∀ H, SqT K H t (zs.map V.str) := by
  unfold tupB at h
  split at h
  · rename_i t
    split at h
    · rename_i o ho
      obtain ⟨h1, h⟩ := Bool.and_eq_true_iff.mp h
      split at h
      · rename_i its n hd
        obtain ⟨h2, h3⟩ := Bool.and_eq_true_iff.mp h
        exact ⟨t, rfl, fun H => .inr ⟨o, its, n, ho, of_decide_eq_true h1, hd, Nat.le_trans (of_decide_eq_true h2) (by decide), strsB_ok h3⟩⟩
      · cases h
    · cases h
  · cases h
abbrev Wks := List (Int × List Str)
def getW (kvs : Wks) (i : Int) : Option (List Str) := (kvs.find? fun kv => decide (kv.1 = i)).map (·.2)
def entsB (K : PySem.W.Frag) : List DictEntry → Wks → Bool
  | [], [] => true
  | e :: es, kv :: kvs => Value.isInt kv.1 e.key && (decide (e.hash = hashInt kv.1) && (tupB K e.val kv.2 && entsB K es kvs))
  | _, _ => false
def dictB (K : PySem.W.Frag) (a : Addr) (kvs : Wks) : Bool := match K.lookup a with
  | some o => decide (o.cls = .type "dict") && (o.dict.isNone && (o.slots.isEmpty && (!(a == sysModules) && match o.data with
    | .dict es _ => entsB K es.toList kvs
    | _ => false)))
  | none => false
structure WI (K : PySem.W.Frag) (a : Addr) (kvs : Wks) : Prop where
  ok : dictB K a kvs = true
  nd : (kvs.map (·.1)).Nodup
theorem ents_ok {P : Program} {w : World} {K : PySem.W.Frag} : ∀ {es : List DictEntry} {kvs : Wks}, entsB K es kvs = true → ∃ vs : List (Key × Value), (∀ e ∈ es, ∃ k, (mixKind P w).is k e.key = true ∧ e.hash = (mixKind P w).hash k) ∧ Pairs (mixKind P w) es vs ∧ vs.map (·.1) = kvs.map (fun kv => (Sum.inl kv.1 : Key)) ∧
    ∀ i : Int, (getW kvs i = none ∧ valueAt vs (.inl i) = none) ∨ ∃ zs t, getW kvs i = some zs ∧ valueAt vs (.inl i) = some (.ref t) ∧ ∀ H, SqT K H t (zs.map V.str)
  | [], [], _ => ⟨[], fun e he => (by cases he), .nil, rfl, fun i => .inl ⟨rfl, rfl⟩⟩
  | e :: es, kv :: kvs, h => by
    obtain ⟨h1, h⟩ := Bool.and_eq_true_iff.mp (show (Value.isInt kv.1 e.key && (decide (e.hash = hashInt kv.1) && (tupB K e.val kv.2 && entsB K es kvs))) = true from h)
    obtain ⟨h2, h⟩ := Bool.and_eq_true_iff.mp h
    obtain ⟨h3, h⟩ := Bool.and_eq_true_iff.mp h
    obtain ⟨vs, v1, v2, v3, v4⟩ := ents_ok (P := P) (w := w) h
    obtain ⟨t, ht, hq⟩ := tupB_ok h3
    have hk : (mixKind P w).is (Sum.inl kv.1) e.key = true := h1
    refine ⟨(.inl kv.1, e.val) :: vs, fun x hx => ?_, .cons hk rfl v2, by rw [List.map_cons, List.map_cons, v3], fun i => ?_⟩
    · rcases List.mem_cons.mp hx with rfl | hx
      · exact ⟨_, hk, of_decide_eq_true h2⟩
      · exact v1 x hx
    · unfold getW valueAt at *
      by_cases c : kv.1 = i
      · subst c
        refine .inr ⟨kv.2, t, by rw [List.find?_cons_of_pos (by simp)]; rfl, ?_, hq⟩
        rw [List.find?_cons_of_pos (by simp), ← ht]
        rfl
      · rw [List.find?_cons_of_neg (by simpa using c), List.find?_cons_of_neg (by simpa using fun e : (Sum.inl kv.1 : Key) = Sum.inl i => c (Sum.inl.inj e))]
        exact v4 i
theorem nodup_inl {l : Wks} (h : (l.map (·.1)).Nodup) : (l.map (fun kv => (Sum.inl kv.1 : Key))).Nodup := by
  have : l.map (fun kv => (Sum.inl kv.1 : Key)) = (l.map (·.1)).map Sum.inl := by rw [List.map_map]; rfl
  rw [this]
  exact List.pairwise_map.mpr (h.imp fun a b => a (Sum.inl.inj b))
theorem wi_dd {X : Cx} {d : Addr} {kvs : Wks} (D : WI X.K d kvs) {pins : List (Addr × Obj)} {σ : L2.St} {H : Hp} {s : Shared} (I : Inv X pins σ H s) : (d == sysModules) = false ∧ ∃ vs : List (Key × Value), s.heap.DictOf (mixKind X.prog X.w) d vs ∧
    ∀ i : Int, (getW kvs i = none ∧ valueAt vs (.inl i) = none) ∨ ∃ zs t, getW kvs i = some zs ∧ valueAt vs (.inl i) = some (.ref t) ∧ ∀ H, SqT X.K H t (zs.map V.str) := by
  have h := D.ok
  unfold dictB at h
  split at h
  · rename_i o ho
    obtain ⟨h1, h⟩ := Bool.and_eq_true_iff.mp h
    obtain ⟨h2, h⟩ := Bool.and_eq_true_iff.mp h
    obtain ⟨h3, h⟩ := Bool.and_eq_true_iff.mp h
    obtain ⟨h4, h⟩ := Bool.and_eq_true_iff.mp h
    split at h
    · rename_i es n hd
      obtain ⟨vs, v1, v2, v3, v4⟩ := ents_ok (P := X.prog) (w := X.w) h
      refine ⟨by simpa using h4, vs, ⟨o, es, n, I.kIn _ _ ho, ⟨of_decide_eq_true h1, by simpa using h2, by simpa using h3⟩, hd, fun e he => v1 e (Array.mem_toList_iff.mpr he), v2, by rw [v3]; exact nodup_inl D.nd⟩, v4⟩
    · cases h
  · cases h
def rNiW (K : PySem.W.Frag) : R2 := fun x y H Q => ∃ (i : Int) (d : Addr) (kvs : Wks), x = .int i ∧ y = .ref d ∧ WI K d kvs ∧ Q (.bl (!(getW kvs i).isSome)) H
def rIxW (K : PySem.W.Frag) : R2 := fun x y H Q => ∃ (i : Int) (d : Addr) (kvs : Wks) (zs : List Str), x = .ref d ∧ y = .int i ∧ WI K d kvs ∧ getW kvs i = some zs ∧ ∀ t, (∀ H', SqT K H' t (zs.map V.str)) → Q (.ref t) H
section
variable {X : Cx}
theorem op_notIn_wi : OpR X (compareOp .NotIn) (rNiW X.K) := by
  rintro pins s σ H x y v u Q I rx ry ⟨i, d, kvs, rfl, rfl, D, q⟩
  obtain ⟨lo, vs, dd, hv⟩ := wi_dd D I
  cases ry
  refine wpAny_notIn_of (kV_is (k := Sum.inl i) rx) lo dd.mapOf ?_
  have e : (valueAt vs (Sum.inl i : Key)).isSome = (getW kvs i).isSome := by
    rcases hv i with ⟨a, b⟩ | ⟨zs, t, a, b, _⟩ <;> rw [a, b] <;> rfl
  rw [e]
  exact ⟨.bl _, H, I.tok _, rfl, q⟩
theorem ix_wi : IxR X (rIxW X.K) := by
  rintro value slice pins s σ H x y v u Q I rx ry ⟨i, d, kvs, zs, rfl, rfl, D, hz, q⟩ hs
  obtain ⟨lo, vs, dd, hv⟩ := wi_dd D I
  cases rx
  rcases hv i with ⟨a, _⟩ | ⟨zs', t, a, b, hq⟩
  · rw [hz] at a
    cases a
  · rw [hz] at a
    cases a
    exact tail_any dd.mapOf.typeIs PySem.F.slot_dict_getitem.lookup (wpAny_getItem_of (kV_is (k := Sum.inl i) ry) dd.mapOf b ⟨.ref t, H, I.tok _, rfl, q t hq⟩) hs
end
section
variable {K : PySem.W.Frag} {H : Hp} {i : Int} {d : Addr} {kvs : Wks}
theorem rv_niW (D : WI K d kvs) : RV (rNiW K) (.int i) (.ref d) H (.bl (!(getW kvs i).isSome)) := rv_val fun _ _ Q q => ⟨i, d, kvs, rfl, rfl, D, q⟩
end
/-! ### any(a list of numbers) -/
def anyN (ns : List Int) : Bool := (List.range ns.length).any fun i => !decide (ns.getD i 0 = 0)
def rAnyN (K : PySem.W.Frag) : List V → Hp → VK → Prop := fun vs H Q => ∃ (a : Addr) (ns : List Int), vs = [V.ref a] ∧ SqL K H a (ns.map V.int) ∧ Q (.bl (anyN ns)) H
theorem truth_ints {prog : Program} {w : World} {A : Around} {ns : List Int} {its : List Value} (e : Vals (ns.map V.int) its) : TruthOf prog w A (fun i v => its.toArray[i]? = some v) (fun i => !decide (ns.getD i 0 = 0)) := fun i v s Q E hv hq => by
  have hv' : its[i]? = some v := by simpa using hv
  have hl : i < ns.length := by
    have h1 := (List.getElem?_eq_some_iff.mp hv').1
    have h2 := e.length
    rw [List.length_map] at h2
    omega
  obtain ⟨u, hu, ru⟩ := e.get (show (ns.map V.int)[i]? = some (.int ns[i]) by rw [List.getElem?_map, List.getElem?_eq_getElem hl]; rfl)
  rw [hv'] at hu
  cases hu
  obtain ⟨t, rfl⟩ := (show ∃ t, v = Value.int ns[i] t from ru)
  have hg : ns.getD i 0 = ns[i] := by rw [List.getD_eq_getElem?_getD, List.getElem?_eq_getElem hl]; rfl
  have hq' : Q (!decide (ns.getD i 0 = 0)) s := hq
  rw [hg] at hq'
  refine PySem.P.truthy_int ?_
  rw [show (ns[i] != 0) = !decide (ns[i] = 0) by rw [Bool.eq_iff_iff]; simp]
  exact hq'
theorem cr_anyN {X : Cx} (hc : X.calm = true) : CallR X (.builtin "any") (rAnyN X.K) := by
  rintro pins s σ H vs us Q I r ⟨a, ns, rfl, hs, q⟩
  obtain ⟨its, rv, hl, -⟩ := I.list hs
  rw [Vals.ref1 r]
  refine call_any_walk (iter_any hl.isList fun s2 e2 st hne => ?_)
  subst e2
  refine ⟨_, _, _, _, _, _, _, rfl, Walks.list (A := X.A.in1) (I.ok.hd hc) _ a hne its.toArray, st, truth_ints rv, fun h' tk hk => ⟨.bl _, H, I.kept fun b o eo => hk b o (fun hm => ?_) (Heap.get?_push_of_some _ eo), ?_, q⟩⟩
  · rcases List.mem_cons.mp hm with e1 | hm
    · exact absurd (e1 ▸ Heap.lt_size eo) (Nat.lt_irrefl _)
    · cases hm
  · show Value.bool _ = Value.bool _
    have h2 := rv.length
    rw [List.length_map] at h2
    unfold anyN
    rw [List.size_toArray, h2]
theorem ev_anyN {K : PySem.W.Frag} {σ : L2.St} {H : Hp} {te : TE} {ns : List Int} (h : EvL te σ H (ns.map V.int)) : Ev (tCB (rAnyN K) (tCons te tNil)) σ H (.bl (anyN ns)) := fun H1 e Q q => h H1 e _ fun p H2 _ e2 h2 => ⟨p, ns, rfl, sq_of h2, q H2 e2⟩
theorem anyN_zero (n : Nat) : anyN (List.replicate n 0) = false := by
  unfold anyN
  rw [List.any_eq_false]
  intro i hi
  rw [List.mem_range, List.length_replicate] at hi
  simp [List.getD_eq_getElem?_getD, hi]
end LW

set_option Elab.async false
set_option linter.all false
set_option maxRecDepth 100000
set_option maxHeartbeats 4000000
namespace LK
open PySem PySem.Spec PyProof.Rows L2 Evl

/-! ### data that == serves -/
def Sh (n : Nat) (d : PyData) : Prop := d.canLay0 = true ∧ d.depth ≤ n
theorem sh_int (i : Int) (n : Nat := 0) : Sh n (.int i) := ⟨by simp [PyData.canLay0], by simp [PyData.depth]⟩
theorem sh_bool (b : Bool) (n : Nat := 0) : Sh n (.bool b) := ⟨by simp [PyData.canLay0], by simp [PyData.depth]⟩
theorem sh_none (n : Nat := 0) : Sh n .none := ⟨by simp [PyData.canLay0], by simp [PyData.depth]⟩
theorem sh_all {n : Nat} : ∀ {ds : List PyData}, (∀ d ∈ ds, Sh n d) → PyData.canLayAll0 ds = true ∧ PyData.depthAll ds ≤ n
  | [], _ => ⟨by simp [PyData.canLayAll0], by simp [PyData.depthAll]⟩
  | d :: ds, h => by
    obtain ⟨h1, h2⟩ := h d List.mem_cons_self
    obtain ⟨h3, h4⟩ := sh_all fun e he => h e (List.mem_cons_of_mem _ he)
    refine ⟨?_, ?_⟩
    · rw [PyData.canLayAll0, h1, h3]
      rfl
    · rw [PyData.depthAll]
      omega
theorem sh_tup {n : Nat} {ds : List PyData} (h : ∀ d ∈ ds, Sh n d) : Sh (n + 1) (.tuple ds) := by
  obtain ⟨h1, h2⟩ := sh_all h
  refine ⟨?_, ?_⟩
  · rw [PyData.canLay0]
    exact h1
  · rw [PyData.depth]
    omega
theorem sh_lst {n : Nat} {ds : List PyData} (h : ∀ d ∈ ds, Sh n d) : Sh (n + 1) (.list ds) := by
  obtain ⟨h1, h2⟩ := sh_all h
  refine ⟨?_, ?_⟩
  · rw [PyData.canLay0]
    exact h1
  · rw [PyData.depth]
    omega
theorem Sh.up {n m : Nat} {d : PyData} (h : Sh n d) (e : n ≤ m) : Sh m d := ⟨h.1, Nat.le_trans h.2 e⟩
theorem Sh.shaped {n : Nat} {d : PyData} (h : Sh n d) (e : n ≤ 64) : SeqAt.shaped d = true := by
  unfold SeqAt.shaped
  rw [h.1, decide_eq_true (Nat.le_trans h.2 e)]
  rfl
theorem Sh.refl {n : Nat} {d : PyData} (h : Sh n d) : PyData.eqv d d = true := SeqAt.eqv_refl d h.1
theorem sh_ints (ns : List Int) : ∀ d ∈ ns.map PyData.int, Sh 0 d := fun d hd => by
  obtain ⟨i, _, rfl⟩ := List.mem_map.mp hd
  exact sh_int i
section
variable {K : PySem.W.Frag} {H H' : Hp}
theorem dp_ints : ∀ ns : List Int, DpAll K H (ns.map V.int) (ns.map PyData.int)
  | [] => .nil
  | n :: r => .cons (.int n) (dp_ints r)
mutual
theorem dp_mono (e : Ex H H') : ∀ {v : V} (d : PyData), Dp K H v d → Dp K H' v d
  | _, .none, h => by cases h; exact .non
  | _, .bool b, h => by cases h; exact .bl b
  | _, .int i, h => by cases h; exact .int i
  | _, .str x, h => by cases h; exact .str x
  | _, .list ds, h => by
    cases h with
    | lst h1 h2 => exact .lst (ex_l e h1) (dpa_mono e ds h2)
  | _, .tuple ds, h => by
    cases h with
    | tup h1 h2 => exact .tup (ex_t e h1) (dpa_mono e ds h2)
  | _, .dict _, h => by cases h
theorem dpa_mono (e : Ex H H') : ∀ {vs : List V} (ds : List PyData), DpAll K H vs ds → DpAll K H' vs ds
  | _, [], h => by cases h; exact .nil
  | _, d :: ds, h => by
    cases h with
    | cons h1 h2 => exact .cons (dp_mono e d h1) (dpa_mono e ds h2)
end
/-- two values of the same data: == True, != False -/
theorem rv_eqD {x y : V} {d : PyData} {n : Nat} (hx : Dp K H x d) (hy : Dp K H y d) (s : Sh n d) (hn : n ≤ 64) : RV (rEqD K) x y H (.bl true) := rv_val fun H1 e Q q =>
  ⟨d, d, dp_mono e d hx, dp_mono e d hy, s.shaped hn, s.shaped hn, by rw [s.refl]; exact q⟩
theorem rv_neD {x y : V} {d : PyData} {n : Nat} (hx : Dp K H x d) (hy : Dp K H y d) (s : Sh n d) (hn : n ≤ 64) : RV (rNeD K) x y H (.bl false) := rv_val fun H1 e Q q =>
  ⟨d, d, dp_mono e d hx, dp_mono e d hy, s.shaped hn, s.shaped hn, by rw [s.refl]; exact q⟩
/-- of any two data -/
theorem rv_neDD {x y : V} {d f : PyData} {n : Nat} (hx : Dp K H x d) (hy : Dp K H y f) (s : Sh n d) (s' : Sh n f) (hn : n ≤ 64) : RV (rNeD K) x y H (.bl (!PyData.eqv d f)) := rv_val fun H1 e Q q =>
  ⟨d, f, dp_mono e d hx, dp_mono e f hy, s.shaped hn, s'.shaped hn, q⟩
theorem rv_eqDD {x y : V} {d f : PyData} {n : Nat} (hx : Dp K H x d) (hy : Dp K H y f) (s : Sh n d) (s' : Sh n f) (hn : n ≤ 64) : RV (rEqD K) x y H (.bl (PyData.eqv d f)) := rv_val fun H1 e Q q =>
  ⟨d, f, dp_mono e d hx, dp_mono e f hy, s.shaped hn, s'.shaped hn, q⟩
theorem rv_ltT {a b : Addr} {ns ms : List Int} (ha : SqT K H a (ns.map V.int)) (hb : SqT K H b (ms.map V.int)) : RV (rLtT K) (.ref a) (.ref b) H (.bl (HT.lexLt ns ms)) := rv_val fun H1 e Q q =>
  ⟨a, b, ns, ms, rfl, rfl, ex_t e ha, ex_t e hb, q⟩
def leV (ns ms : List Int) : Bool := Ob.lexAt (fun j => decide (ns.getD j 0 = ms.getD j 0)) (fun j => decide (ns.getD j 0 ≤ ms.getD j 0)) (decide (ns.length ≤ ms.length)) 0 (min ns.length ms.length)
theorem rv_leT {a b : Addr} {ns ms : List Int} (ha : SqT K H a (ns.map V.int)) (hb : SqT K H b (ms.map V.int)) : RV (rLeT K) (.ref a) (.ref b) H (.bl (leV ns ms)) := rv_val fun H1 e Q q =>
  ⟨a, b, ns, ms, rfl, rfl, ex_t e ha, ex_t e hb, q⟩

/-! ### reading a cell of the script -/
def cellv (ns : List Int) (k : Nat) : Int := ns.getD k 0
theorem cellv_in {ns : List Int} {k : Nat} (hk : k < ns.length) : (ns.map V.int)[k]? = some (.int (cellv ns k)) := by
  rw [List.getElem?_map, List.getElem?_eq_getElem hk]
  unfold cellv
  rw [List.getD_eq_getElem?_getD, List.getElem?_eq_getElem hk]
  rfl
theorem cellv_out {ns : List Int} {k : Nat} (hk : ns.length ≤ k) : cellv ns k = 0 := by
  unfold cellv
  rw [List.getD_eq_getElem?_getD, List.getElem?_eq_none hk]
  rfl
def spCel (K : PySem.W.Frag) : Sp := fun vs H Q _ => ∃ (a : Addr) (ns : List Int) (k : Nat), vs = [.ref a, .int (k : Int)] ∧ SqL K H a (ns.map V.int) ∧ RetV (.int (cellv ns k)) H Q
theorem sv_cell {a : Addr} {ns : List Int} {k : Nat} {z : Int} (h : SqL K H a (ns.map V.int)) (e : z = (k : Int)) : SpV (spCel K) [.ref a, .int z] H (.int (cellv ns k)) := fun H1 e1 Q q E =>
  ⟨a, ns, k, by rw [e], ex_l e1 h, fun H2 e2 => q H2 e2⟩
end
end LK

namespace ND
open PySem PySem.Spec PyProof.Rows L2 Evl LK LT LG LS LQ LX LO LN LP
def top (i : Nat) : Stmt := PySem.Challenge.pw_laminae_k59_commit_steps.main.body.getD i (.Pass ⟨0, 0, 0, 0⟩)
abbrev sIw : Stmt := top 7
theorem scIw : FnScope ["value"] ["value"] (defScope sIw) := ⟨rfl, rfl, rfl, by decide +kernel, rfl, by decide +kernel, by decide +kernel⟩
abbrev sAre : Stmt := top 8
theorem scAre : FnScope ["values", "many"] ["values", "many"] (defScope sAre) := ⟨rfl, rfl, rfl, by decide +kernel, rfl, by decide +kernel, by decide +kernel⟩
abbrev sSize : Stmt := top 15
theorem scSize : FnScope ["blocks"] ["blocks"] (defScope sSize) := ⟨rfl, rfl, rfl, by decide +kernel, rfl, by decide +kernel, by decide +kernel⟩
abbrev sInit : Stmt := inClass (top 16) 0
theorem scInit : FnScope ["self", "blocks", "_"] ["self", "blocks"] (defScope sInit) := ⟨rfl, rfl, rfl, by decide +kernel, rfl, by decide +kernel, by decide +kernel⟩
abbrev sRead : Stmt := inClass (top 16) 1
theorem scRead : FnScope ["self", "sector"] ["self", "sector"] (defScope sRead) := ⟨rfl, rfl, rfl, by decide +kernel, rfl, by decide +kernel, by decide +kernel⟩
abbrev sWrite : Stmt := inClass (top 16) 2
theorem scWrite : FnScope ["self", "sector", "words", "written"] ["self", "sector", "words"] (defScope sWrite) := ⟨rfl, rfl, rfl, by decide +kernel, rfl, by decide +kernel, by decide +kernel⟩
abbrev sFlush : Stmt := inClass (top 16) 3
theorem scFlush : FnScope ["self"] ["self"] (defScope sFlush) := ⟨rfl, rfl, rfl, by decide +kernel, rfl, by decide +kernel, by decide +kernel⟩
abbrev sWait : Stmt := inClass (top 16) 4
theorem scWait : FnScope ["self", "sector", "words"] ["self"] (defScope sWait) := ⟨rfl, rfl, rfl, by decide +kernel, rfl, by decide +kernel, by decide +kernel⟩
abbrev sImg : Stmt := inClass (top 16) 7
theorem scImg : FnScope ["self", "words"] ["self"] (defScope sImg) := ⟨rfl, rfl, rfl, by decide +kernel, rfl, by decide +kernel, by decide +kernel⟩
abbrev sSec : Stmt := inClass (top 16) 9
theorem scSec : FnScope ["self", "sector"] ["self", "sector"] (defScope sSec) := ⟨rfl, rfl, rfl, by decide +kernel, rfl, by decide +kernel, by decide +kernel⟩
abbrev sBeg : Stmt := inClass (top 16) 10
theorem scBeg : FnScope ["self"] ["self"] (defScope sBeg) := ⟨rfl, rfl, rfl, by decide +kernel, rfl, by decide +kernel, by decide +kernel⟩
abbrev sSet : Stmt := inClass (top 16) 11
theorem scSet : FnScope ["self", "choices", "sector", "words", "many"] ["self", "choices"] (defScope sSet) := ⟨rfl, rfl, rfl, by decide +kernel, rfl, by decide +kernel, by decide +kernel⟩
structure Txt (mg : Str → Option Value) (K : PySem.W.Frag) (C : Addr) : Prop where
  len : mg "len" = none
  range : mg "range" = none
  list : mg "list" = none
  isinstance : mg "isinstance" = none
  zip : mg "zip" = none
  int : mg "int" = none
  bool : mg "bool" = none
  all : mg "all" = none
  gMIN_BLOCKS : ∃ t, mg "MIN_BLOCKS" = some (.int 96 t)
  gMAX_BLOCKS : ∃ t, mg "MAX_BLOCKS" = some (.int 256 t)
  gSECTOR_WORDS : ∃ t, mg "SECTOR_WORDS" = some (.int 8 t)
  gBLOCK_SECTORS : ∃ t, mg "BLOCK_SECTORS" = some (.int 4 t)
  cl : Cls K C
  nb : NoAttr K C "blocks"
  nk : NoAttr K C "_kept"
  ns : NoAttr K C "_shown"
  nw : NoAttr K C "_writes"
  np : NoAttr K C "_powered"
  nf : NoAttr K C "_before_failure"
  mgC : mg "Disk" = some (.ref C)
/-! ### values of a known kind -/
inductive Kd (H : Hp) : V → String → Prop
  | non : Kd H .non "NoneType"
  | bl (b : Bool) : Kd H (.bl b) "bool"
  | int (i : Int) : Kd H (.int i) "int"
  | str (z : Str) : Kd H (.str z) "str"
  | lst {a : Addr} {xs : List V} (h : H a = some (.lst xs)) : Kd H (.ref a) "list"
  | tup {a : Addr} {xs : List V} (h : H a = some (.tup xs)) : Kd H (.ref a) "tuple"
theorem Kd.mono {H H' : Hp} {v : V} {n : String} (e : Ex H H') : Kd H v n → Kd H' v n
  | .non => .non
  | .bl b => .bl b
  | .int i => .int i
  | .str z => .str z
  | .lst h => .lst (e _ _ h)
  | .tup h => .tup (e _ _ h)
theorem Kd.ty {K : PySem.W.Frag} {H : Hp} {v : V} {n : String} : Kd H v n → TyOf K H v (.type n)
  | .non => .non
  | .bl b => .bl b
  | .int i => .int i
  | .str z => .str z
  | .lst h => .lst h
  | .tup h => .tup h
theorem Kd.no {H : Hp} {v : V} {n : String} (k : Kd H v n) : ∀ a C dx fs, H a = some (.ins C dx fs) → v ≠ .ref a := fun a C dx fs h e => by
  cases k with
  | lst h2 =>
    cases e
    rw [h] at h2
    cases h2
  | tup h2 =>
    cases e
    rw [h] at h2
    cases h2
  | _ => cases e
def wd : V → Bool
  | .int i => decide (0 ≤ i)
  | _ => false
/-- isinstance(v, int), isinstance(v, bool) -/
def kInt (n : String) : Bool := n == "int" || n == "bool"
theorem kd_int {K : PySem.W.Frag} {H : Hp} {v : V} {n : String} (k : Kd H v n) : PySem.W.kitOne K (.type n) (.type "int") = some (kInt n) := by
  cases k <;> exact kit_ty rfl
theorem kd_bool {K : PySem.W.Frag} {H : Hp} {v : V} {n : String} (k : Kd H v n) : PySem.W.kitOne K (.type n) (.type "bool") = some (n == "bool") := by
  cases k <;> exact kit_ty rfl
theorem kd_list {K : PySem.W.Frag} {H : Hp} {v : V} {n : String} (k : Kd H v n) : PySem.W.kitOne K (.type n) (.type "list") = some (n == "list") := by
  cases k <;> exact kit_ty rfl
theorem kd_tuple {K : PySem.W.Frag} {H : Hp} {v : V} {n : String} (k : Kd H v n) : PySem.W.kitOne K (.type n) (.type "tuple") = some (n == "tuple") := by
  cases k <;> exact kit_ty rfl
theorem kd_str {K : PySem.W.Frag} {H : Hp} {v : V} {n : String} (k : Kd H v n) : PySem.W.kitOne K (.type n) (.type "str") = some (n == "str") := by
  cases k <;> exact kit_ty rfl
section
variable {K : PySem.W.Frag} {σ : L2.St} {H : Hp} {ta tb : TE} {v : V}
theorem ev_isk {n m : String} {b : Bool} (h : Ev ta σ H v) (hn : Ev tb σ H (.ty m)) (k : Kd H v n) (hk : PySem.W.kitOne K (.type n) (.type m) = some b) : Ev (tCB (rIsi K) (tCons ta (tCons tb tNil))) σ H (.bl b) := ev_isi h hn (fun H1 e => .base (k.mono e).ty) hk
end
def spIw : Sp := fun vs H Q _ => ∃ (v : V) (n : String), vs = [v] ∧ Kd H v n ∧ RetV (.bl (wd v)) H Q
theorem sv_iw {v : V} {n : String} {H : Hp} (k : Kd H v n) : SpV spIw [v] H (.bl (wd v)) := fun H1 e Q q E => ⟨v, n, rfl, k.mono e, q⟩

section
variable {P : Program} {w : World} {K : PySem.W.Frag} {mg : Str → Option Value} {base : Heap} {C : Addr}
theorem ok_iw {f : Addr} {fd : FuncData} (F : Fun K "is_word" "is_word" sIw f fd) (T : Txt mg K C) : FnOk P w K mg base CX0 1 f fd ["value"] spIw := by
  refine F.ok scIw (fun vs H Q E h => ?_) (fun cdv A outer s H vs Q E hr h => ?_)
  · obtain ⟨v, n, rfl, _⟩ := h
    rfl
  · obtain ⟨v, n, rfl, k, q⟩ := h
    refine ⟨_, (pss_one (ps_ret (pe_and (pe_callB call_isi (by rfl) T.isinstance (by decide +kernel) (pa_cons (pv 0) (pa_cons (pe_bltn (v := .ty "int") (u := .type "int") (by rfl) T.int (by decide +kernel) rfl) pa_nil))) (pe_and (pe_not (pe_callB call_isi (by rfl) T.isinstance (by decide +kernel) (pa_cons (pv 0) (pa_cons (pe_bltn (v := .ty "bool") (u := .type "bool") (by rfl) T.bool (by decide +kernel) rfl) pa_nil)))) (pe_one (pe_cmpR op_ge (pv 0) pe_int (nomark _))))))), ?_⟩
    have i1 := ev_isk (K := K) (σ := [some v]) (ta := tVar 0) (tb := tC (.ty "int")) (ev_var rfl) ev_c k (kd_int k)
    have i2 := ev_isk (K := K) (σ := [some v]) (ta := tVar 0) (tb := tC (.ty "bool")) (ev_var rfl) ev_c k (kd_bool k)
    cases k with
    | int i => exact s_ret (ev_is (ev_andV i1 (fun _ => ev_andV (ev_notV i2) (fun _ => ev_op (ev_var rfl) ev_c rv_I0))) rfl) fun H1 e1 => q H1 e1
    | bl b => exact s_ret (ev_is (ev_andV (b := false) i1 (fun _ => ev_andV (b := false) (ev_notV i2) (fun h => by cases h))) rfl) fun H1 e1 => q H1 e1
    | non => exact s_ret (ev_is (ev_andV (b := false) i1 (fun h => by cases h)) rfl) fun H1 e1 => q H1 e1
    | str z => exact s_ret (ev_is (ev_andV (b := false) i1 (fun h => by cases h)) rfl) fun H1 e1 => q H1 e1
    | lst h => exact s_ret (ev_is (ev_andV (b := false) i1 (fun h => by cases h)) rfl) fun H1 e1 => q H1 e1
    | tup h => exact s_ret (ev_is (ev_andV (b := false) i1 (fun h => by cases h)) rfl) fun H1 e1 => q H1 e1
/-- is_word(x) in an element of a generator expression -/
theorem qv_iw {X : Cx} {σ : L2.St} {H : Hp} {Pt : Addr} {scope : Scope} {x : Str} {u : Value} {v : V} {n : String} {a : Expr} {pos p : Pos} {f : Addr} {fd : FuncData} {j : Nat} (hr : Room j X.A) (T : Txt X.mg X.K C) (F : Fun X.K "is_word" "is_word" sIw f fd) (bI : Binds X.K fd ["value"] []) (gI : X.mg "is_word" = some (.ref f)) (hT : Tab H Pt) (k : Kd H v n)
    (hk : scope.kind = .function) (hl : scope.names.lookup ("is_word" : Str) = some .globalImplicit) (ha : QV X σ H Pt scope x u a v) (hs : ∀ env, starEach [a] env = (false, eval a env) :: starEach [] env := by intro _; rfl) : QV X σ H Pt scope x u (.Call (.Name "is_word" p) [a] [] pos) (.bl (wd v)) := by
  refine qv_call1 hr hk hl gI F rfl scIw rfl bI ha (fun A0 r hr0 => ?_) hs (by decide)
  have kk := k
  have b1 := kd_int (K := X.K) k
  have b2 := kd_bool (K := X.K) k
  have ty := k.ty (K := X.K)
  have no := k.no
  cases k with
  | int i => exact qv_is (qv_and (qv_blt2 rfl rfl T.isinstance (by decide +kernel) (qv_x rfl rfl hr0) (qv_blt (z := .ty "int") (r := .type "int") rfl rfl T.int (by decide +kernel) rfl) (qr_isi hT ty no b1)) (fun _ => qv_and (qv_not (qv_blt2 rfl rfl T.isinstance (by decide +kernel) (qv_x rfl rfl hr0) (qv_blt (z := .ty "bool") (r := .type "bool") rfl rfl T.bool (by decide +kernel) rfl) (qr_isi hT ty no b2))) (fun _ => qv_one (qv_cmp qr_ge_int (qv_x rfl rfl hr0) qv_int (nomark _))))) rfl
  | bl b => exact qv_is (qv_and (d := false) (qv_blt2 rfl rfl T.isinstance (by decide +kernel) (qv_x rfl rfl hr0) (qv_blt (z := .ty "int") (r := .type "int") rfl rfl T.int (by decide +kernel) rfl) (qr_isi hT ty no b1)) (fun _ => qv_is (qv_and (d := false) (qv_not (qv_blt2 rfl rfl T.isinstance (by decide +kernel) (qv_x rfl rfl hr0) (qv_blt (z := .ty "bool") (r := .type "bool") rfl rfl T.bool (by decide +kernel) rfl) (qr_isi hT ty no b2))) (fun h => by cases h)) (show _ = V.bl false from rfl))) rfl
  | non => exact qv_is (qv_and (d := false) (qv_blt2 rfl rfl T.isinstance (by decide +kernel) (qv_x rfl rfl hr0) (qv_blt (z := .ty "int") (r := .type "int") rfl rfl T.int (by decide +kernel) rfl) (qr_isi hT ty no b1)) (fun h => by cases h)) rfl
  | str z => exact qv_is (qv_and (d := false) (qv_blt2 rfl rfl T.isinstance (by decide +kernel) (qv_x rfl rfl hr0) (qv_blt (z := .ty "int") (r := .type "int") rfl rfl T.int (by decide +kernel) rfl) (qr_isi hT ty no b1)) (fun h => by cases h)) rfl
  | lst h => exact qv_is (qv_and (d := false) (qv_blt2 rfl rfl T.isinstance (by decide +kernel) (qv_x rfl rfl hr0) (qv_blt (z := .ty "int") (r := .type "int") rfl rfl T.int (by decide +kernel) rfl) (qr_isi hT ty no b1)) (fun h => by cases h)) rfl
  | tup h => exact qv_is (qv_and (d := false) (qv_blt2 rfl rfl T.isinstance (by decide +kernel) (qv_x rfl rfl hr0) (qv_blt (z := .ty "int") (r := .type "int") rfl rfl T.int (by decide +kernel) rfl) (qr_isi hT ty no b1)) (fun h => by cases h)) rfl
/-- are_words of a list -/
def spAre (Pt : Addr) : Sp := fun vs H Q _ => Tab H Pt ∧ ∃ (a : Addr) (xs : List V) (many : Int), vs = [.ref a, .int many] ∧ H a = some (.lst xs) ∧ (∀ x ∈ xs, ∃ n, Kd H x n) ∧ RetV (.bl (decide ((xs.length : Int) = many) && xs.all wd)) H Q
theorem ok_are {f c Pt fI : Addr} {fd fdI : FuncData} (F : FunC K "are_words" "are_words" sAre f fd c) (TB : LamX.TabB base mg c Pt) (T : Txt mg K C) (FI : Fun K "is_word" "is_word" sIw fI fdI) (bI : Binds K fdI ["value"] []) (gI : mg "is_word" = some (.ref fI)) : FnOk P w K mg base CX0 1 f fd ["values", "many"] (spAre Pt) := by
  refine F.ok scAre (fun vs H Q E h => ?_) (fun A outer s H vs Q E hr h => ?_)
  · obtain ⟨_, a, xs, m, rfl, _⟩ := h
    rfl
  · refine ⟨_, (pss_cons (ps_if (PW.pt (pw_or (pt_not (pt_val (pe_callB call_isi (by rfl) T.isinstance (by decide +kernel) (pa_cons (pv 0) (pa_cons (pe_bltn (v := .ty "list") (u := .type "list") (by rfl) T.list (by decide +kernel) rfl) pa_nil))))) (pw_or1 (pt_cmpR op_ne (pe_callB call_len_seq (by rfl) T.len (by decide +kernel) (pa_cons (pv 0) pa_nil)) (pv 1) (nomark _))))) (pss_one (ps_ret pe_bl)) pss_nil)
      (pss_one (ps_ret (pe_all hr (by rfl) T.all (by decide +kernel) TB rfl ⟨rfl, rfl, by decide +kernel, rfl, rfl, fun y hy e => absurd e ((by decide +kernel : ∀ y ∈ _, y.2 ≠ NameKind.free) y hy)⟩ (pv 0) (fun _ => rfl))))), ?_⟩
    obtain ⟨hT, a, xs, m, rfl, hS, hk, q⟩ := h
    refine q_when (b := !decide ((xs.length : Int) = m)) (et_is (et_or (et_not (et_B (ev_isk (ev_var rfl) ev_c (.lst hS) (kd_list (.lst hS))))) (fun _ => et_test (ev_op (ev_len (ev_var rfl) (sq_of hS)) (ev_var rfl) (rv_ne rfl)))) (by simp)) (fun hb H1 e1 => ?_) (fun hb H1 e1 => ?_)
    · have h0 : decide ((xs.length : Int) = m) = false := by simpa using hb
      rw [h0] at q
      exact s_ret ev_c fun H2 e2 => q H2 (e1.trans e2)
    · have h0 : decide ((xs.length : Int) = m) = true := by simpa using hb
      rw [h0] at q
      refine s_ret (ev_is (ev_gen (f := fun i => wd (xs.getD i .non)) (xs := fun i => xs.getD i .non) (n := xs.length) (ev_var rfl) (hT.mono e1) (fun H2 e2 => .inl ⟨a, xs, rfl, sq_of ((e1.trans e2) _ _ hS), rfl, fun i => rfl⟩) (fun H2 e2 i u hi hu => ?_)) ?_) fun H2 e2 => q H2 (e1.trans e2)
      · have hx : xs.getD i .non ∈ xs := by
          rw [List.getD_eq_getElem?_getD, List.getElem?_eq_getElem hi]
          exact List.getElem_mem hi
        obtain ⟨n, kn⟩ := hk _ hx
        exact qv_iw hr T FI bI gI (hT.mono (e1.trans e2)) (kn.mono (e1.trans e2)) rfl rfl (qv_x rfl rfl hu)
      · rw [allF_list xs .non wd]
        rfl
end

/-! ### a disk: what lasts, what waits, the power -/
def stepA (f : Nat → List Int) (w : Nat × List Int) (c : Nat) : Nat → List Int := fset f w.1 (w.2.take c ++ (f w.1).drop c)
def aftN (f : Nat → List Int) (ws : List (Nat × List Int)) (c : Nat → Nat) : Nat → (Nat → List Int)
  | 0 => f
  | i + 1 => stepA (aftN f ws c i) (ws.getD i (0, [])) (c i)
def due (f : Nat → List Int) (ws : List (Nat × List Int)) : Nat → List Int := ws.foldl (fun g w => fset g w.1 w.2) f
theorem due_snoc (f : Nat → List Int) (ws : List (Nat × List Int)) (w : Nat × List Int) : due f (ws ++ [w]) = fset (due f ws) w.1 w.2 := by
  unfold due
  rw [List.foldl_append]
  rfl
theorem fset_same (f : Nat → List Int) (s : Nat) : fset f s (f s) = f := funext fun x => by
  unfold fset
  split
  · rename_i h
    rw [h]
  · rfl
theorem step0 (f : Nat → List Int) (w : Nat × List Int) : stepA f w 0 = f := by
  unfold stepA
  rw [List.take_zero, List.drop_zero, List.nil_append, fset_same]
theorem aft_stop {f : Nat → List Int} {ws : List (Nat × List Int)} {c : Nat → Nat} {i : Nat} (h : ∀ j, i ≤ j → c j = 0) : ∀ k, aftN f ws c (i + k) = aftN f ws c i
  | 0 => rfl
  | k + 1 => by
    show stepA (aftN f ws c (i + k)) _ (c (i + k)) = _
    rw [h (i + k) (by omega), step0, aft_stop h k]
theorem aft_cong {f : Nat → List Int} {ws : List (Nat × List Int)} {c c' : Nat → Nat} : ∀ {i : Nat}, (∀ j, j < i → c j = c' j) → aftN f ws c i = aftN f ws c' i
  | 0, _ => rfl
  | i + 1, h => by
    show stepA (aftN f ws c i) _ (c i) = stepA (aftN f ws c' i) _ (c' i)
    rw [aft_cong fun j hj => h j (by omega), h i (by omega)]
theorem fset_len {f : Nat → List Int} {s : Nat} {v : List Int} (hf : ∀ s, (f s).length = 8) (hv : v.length = 8) : ∀ x, (fset f s v x).length = 8 := fun x => by
  unfold fset
  split
  · exact hv
  · exact hf x
theorem step_len {f : Nat → List Int} {w : Nat × List Int} {c : Nat} (hf : ∀ s, (f s).length = 8) (hw : w.2.length = 8) : ∀ x, (stepA f w c x).length = 8 := fset_len hf (by
  rw [List.length_append, List.length_take, List.length_drop, hw, hf]
  omega)
theorem getD_in {α : Type} {l : List α} {i : Nat} {d x : α} (h : l[i]? = some x) : l.getD i d = x := by
  rw [List.getD_eq_getElem?_getD, h]
  rfl
theorem aft_len {f : Nat → List Int} {ws : List (Nat × List Int)} {c : Nat → Nat} (hf : ∀ s, (f s).length = 8) (hw : ∀ w ∈ ws, w.2.length = 8) : ∀ i, i ≤ ws.length → ∀ x, (aftN f ws c i x).length = 8
  | 0, _ => hf
  | i + 1, h => step_len (aft_len hf hw i (by omega)) (by
    rw [getD_in (List.getElem?_eq_getElem (show i < ws.length by omega))]
    exact hw _ (List.getElem_mem _))
theorem due_len {f : Nat → List Int} (hf : ∀ s, (f s).length = 8) : ∀ {ws : List (Nat × List Int)}, (∀ w ∈ ws, w.2.length = 8) → ∀ x, (due f ws x).length = 8 := by
  intro ws
  induction ws generalizing f with
  | nil => exact fun _ => hf
  | cons w r ih => exact fun h => ih (f := fset f w.1 w.2) (fset_len hf (h w List.mem_cons_self)) fun v hv => h v (List.mem_cons_of_mem _ hv)
structure Dk where
  kept : Nat → List Int
  ws : List (Nat × List Int)
  pw : Bool
  bf : Option Nat
def bfV : Option Nat → V
  | none => .non
  | some k => .int (k : Int)
def dfl (n : Nat) (ka sa wa : Addr) (pw : Bool) (bf : Option Nat) : List (Str × V) := [(("blocks" : Str), .int (n : Int)), (("_kept" : Str), .ref ka), (("_shown" : Str), .ref sa), (("_writes" : Str), .ref wa), (("_powered" : Str), .bl pw), (("_before_failure" : Str), bfV bf)]
section
variable {n : Nat} {ka sa wa ka' sa' wa' : Addr} {pw pw' : Bool} {bf bf' : Option Nat}
theorem d_b : (dfl n ka sa wa pw bf).lookup ("blocks" : Str) = some (V.int (n : Int)) := rfl
theorem d_k : (dfl n ka sa wa pw bf).lookup ("_kept" : Str) = some (V.ref ka) := rfl
theorem d_s : (dfl n ka sa wa pw bf).lookup ("_shown" : Str) = some (V.ref sa) := rfl
theorem d_w : (dfl n ka sa wa pw bf).lookup ("_writes" : Str) = some (V.ref wa) := rfl
theorem d_p : (dfl n ka sa wa pw bf).lookup ("_powered" : Str) = some (V.bl pw) := rfl
theorem d_f : (dfl n ka sa wa pw bf).lookup ("_before_failure" : Str) = some (bfV bf) := rfl
theorem d_ps : putF "_shown" (V.ref sa') (dfl n ka sa wa pw bf) = dfl n ka sa' wa pw bf := rfl
theorem d_pw : putF "_writes" (V.ref wa') (dfl n ka sa wa pw bf) = dfl n ka sa wa' pw bf := rfl
theorem d_pp : putF "_powered" (V.bl pw') (dfl n ka sa wa pw bf) = dfl n ka sa wa pw' bf := rfl
theorem d_pf : putF "_before_failure" (bfV bf') (dfl n ka sa wa pw bf) = dfl n ka sa wa pw bf' := rfl
theorem d_no {m : Str} (h : m ≠ "blocks" ∧ m ≠ "_kept" ∧ m ≠ "_shown" ∧ m ≠ "_writes" ∧ m ≠ "_powered" ∧ m ≠ "_before_failure") : (dfl n ka sa wa pw bf).lookup m = Option.none := by
  unfold dfl
  rw [List.lookup_cons, beq_false_of_ne h.1, List.lookup_cons, beq_false_of_ne h.2.1, List.lookup_cons, beq_false_of_ne h.2.2.1, List.lookup_cons, beq_false_of_ne h.2.2.2.1, List.lookup_cons, beq_false_of_ne h.2.2.2.2.1, List.lookup_cons, beq_false_of_ne h.2.2.2.2.2]
  rfl
end
def Rows (G H : Hp) (la : Addr) (m : Nat) (f : Nat → List Int) : Prop := ∃ ks : List Addr, H la = some (.lst (ks.map V.ref)) ∧ ks.length = m ∧ ∀ (i : Nat) (a : Addr), ks[i]? = some a → G a = some (.lst ((f i).map V.int))
def Wr (G H : Hp) (la : Addr) (ws : List (Nat × List Int)) : Prop := ∃ ts : List Addr, H la = some (.lst (ts.map V.ref)) ∧ ts.length = ws.length ∧ ∀ (i : Nat) (t : Addr) (w : Nat × List Int), ts[i]? = some t → ws[i]? = some w → ∃ l, G t = some (.tup [.int (w.1 : Int), .ref l]) ∧ G l = some (.lst (w.2.map V.int))
structure DK (C : Addr) (G H : Hp) (p ka sa wa : Addr) (n : Nat) (d : Dk) : Prop where
  g : Ex G H
  gp : G p = none
  gk : G ka = none
  gs : G sa = none
  gw : G wa = none
  nks : ka ≠ sa
  nkw : ka ≠ wa
  nsw : sa ≠ wa
  o : ∃ dx, H p = some (.ins C dx (dfl n ka sa wa d.pw d.bf))
  k : Rows G H ka (4 * n) d.kept
  s : Rows G H sa (4 * n) (due d.kept d.ws)
  w : Wr G H wa d.ws
  n0 : 96 ≤ n
  n1 : n ≤ 256
  wl : d.ws.length ≤ 300
  ok : ∀ w ∈ d.ws, w.1 < 4 * n ∧ w.2.length = 8
  kz : ∀ s, (d.kept s).length = 8
/-- from (G, H) to (G', H1): what was frozen stays so, what was not does not become so, nothing goes away -/
structure St (G H G' H1 : Hp) : Prop where
  g : Ex G G'
  n : ∀ a, H a ≠ none → G a = none → G' a = none
  a : ∀ a, H a ≠ none → H1 a ≠ none
section
variable {C : Addr} {G G' H H1 H2 : Hp} {la p ka sa wa : Addr} {n m : Nat} {d : Dk} {f : Nat → List Int} {ws : List (Nat × List Int)}
theorem Rows.ex (r : Rows G H la m f) (g : Ex G G') (e : Ex H H1) : Rows G' H1 la m f := by
  obtain ⟨ks, h, hl, hs⟩ := r
  exact ⟨ks, e _ _ h, hl, fun i a ha => g _ _ (hs i a ha)⟩
theorem Rows.at (r : Rows G H la m f) (g : Ex G G') (e : H1 la = H la) : Rows G' H1 la m f := by
  obtain ⟨ks, h, hl, hs⟩ := r
  exact ⟨ks, by rw [e]; exact h, hl, fun i a ha => g _ _ (hs i a ha)⟩
theorem Wr.ex (r : Wr G H la ws) (g : Ex G G') (e : Ex H H1) : Wr G' H1 la ws := by
  obtain ⟨ts, h, hl, hs⟩ := r
  exact ⟨ts, e _ _ h, hl, fun i t w ht hw => let ⟨l, a, b⟩ := hs i t w ht hw; ⟨l, g _ _ a, g _ _ b⟩⟩
theorem Wr.at (r : Wr G H la ws) (g : Ex G G') (e : H1 la = H la) : Wr G' H1 la ws := by
  obtain ⟨ts, h, hl, hs⟩ := r
  exact ⟨ts, by rw [e]; exact h, hl, fun i t w ht hw => let ⟨l, a, b⟩ := hs i t w ht hw; ⟨l, g _ _ a, g _ _ b⟩⟩
theorem DK.ex (D : DK C G H p ka sa wa n d) (e : Ex H H1) : DK C G H1 p ka sa wa n d :=
  ⟨D.g.trans e, D.gp, D.gk, D.gs, D.gw, D.nks, D.nkw, D.nsw, let ⟨dx, h⟩ := D.o; ⟨dx, e _ _ h⟩, D.k.ex (Ex.refl _) e, D.s.ex (Ex.refl _) e, D.w.ex (Ex.refl _) e, D.n0, D.n1, D.wl, D.ok, D.kz⟩
theorem St.refl (G H : Hp) : St G H G H := ⟨Ex.refl _, fun _ _ h => h, fun _ h => h⟩
theorem St.ex (e : Ex H H1) : St G H G H1 := ⟨Ex.refl _, fun _ _ h => h, fun a h z => h (fresh_back e z)⟩
theorem St.trans {G2 : Hp} (s : St G H G' H1) (t : St G' H1 G2 H2) : St G H G2 H2 := ⟨s.g.trans t.g, fun a h g => t.n a (s.a a h) (s.n a h g), fun a h => t.a a (s.a a h)⟩
theorem DK.np (D : DK C G H p ka sa wa n d) : p ≠ ka ∧ p ≠ sa ∧ p ≠ wa := by
  obtain ⟨dx, h⟩ := D.o
  obtain ⟨_, h1, _⟩ := D.k
  obtain ⟨_, h2, _⟩ := D.s
  obtain ⟨_, h3, _⟩ := D.w
  exact ⟨ne_of h h1 (by intro z; cases z), ne_of h h2 (by intro z; cases z), ne_of h h3 (by intro z; cases z)⟩
theorem DK.al (D : DK C G H p ka sa wa n d) : H p ≠ none ∧ H ka ≠ none ∧ H sa ≠ none ∧ H wa ≠ none := by
  obtain ⟨dx, h⟩ := D.o
  obtain ⟨_, h1, _⟩ := D.k
  obtain ⟨_, h2, _⟩ := D.s
  obtain ⟨_, h3, _⟩ := D.w
  exact ⟨by rw [h]; exact fun z => (by cases z), by rw [h1]; exact fun z => (by cases z), by rw [h2]; exact fun z => (by cases z), by rw [h3]; exact fun z => (by cases z)⟩
theorem DK.joinG (D : DK C G H p ka sa wa n d) (e : Ex H H1) : St G H (grow G H H1 fun _ => False) H1 ∧ DK C (grow G H H1 fun _ => False) H1 p ka sa wa n d := by
  have ge := D.g.trans e
  have gg : Ex G (grow G H H1 fun _ => False) := grow_ex
  obtain ⟨ap, ak, as, aw⟩ := D.al
  exact ⟨⟨gg, fun a h g => grow_no h g, fun a h z => h (fresh_back e z)⟩, grow_sub ge, grow_no ap D.gp, grow_no ak D.gk, grow_no as D.gs, grow_no aw D.gw, D.nks, D.nkw, D.nsw, let ⟨dx, h⟩ := D.o; ⟨dx, e _ _ h⟩, D.k.ex gg e, D.s.ex gg e, D.w.ex gg e, D.n0, D.n1, D.wl, D.ok, D.kz⟩
/-- all that is new since H joins what is frozen -/
theorem DK.join (D : DK C G H p ka sa wa n d) (e : Ex H H1) : ∃ G', St G H G' H1 ∧ DK C G' H1 p ka sa wa n d ∧ ∀ a o, H a = none → H1 a = some o → G' a = some o := by
  have ge := D.g.trans e
  have gg : Ex G (grow G H H1 fun _ => False) := grow_ex
  obtain ⟨ap, ak, as, aw⟩ := D.al
  refine ⟨grow G H H1 fun _ => False, ⟨gg, fun a h g => grow_no h g, fun a h z => h (fresh_back e z)⟩, ?_, fun a o h h1 => grow_new (fresh_back D.g h) h id h1⟩
  exact ⟨grow_sub ge, grow_no ap D.gp, grow_no ak D.gk, grow_no as D.gs, grow_no aw D.gw, D.nks, D.nkw, D.nsw, let ⟨dx, h⟩ := D.o; ⟨dx, e _ _ h⟩, D.k.ex gg e, D.s.ex gg e, D.w.ex gg e, D.n0, D.n1, D.wl, D.ok, D.kz⟩
/-- what is not frozen and no part of the disk may change -/
theorem DK.upd {a : Addr} {o : HO} (D : DK C G H p ka sa wa n d) (ga : G a = none) (h1 : a ≠ p) (h2 : a ≠ ka) (h3 : a ≠ sa) (h4 : a ≠ wa) : DK C G (upd H a o) p ka sa wa n d :=
  ⟨D.g.mut ga, D.gp, D.gk, D.gs, D.gw, D.nks, D.nkw, D.nsw, let ⟨dx, h⟩ := D.o; ⟨dx, by rw [upd_ne h1.symm]; exact h⟩, D.k.at (Ex.refl _) (upd_ne h2.symm), D.s.at (Ex.refl _) (upd_ne h3.symm), D.w.at (Ex.refl _) (upd_ne h4.symm), D.n0, D.n1, D.wl, D.ok, D.kz⟩
theorem St.upd {a : Addr} {o : HO} (s : St G H G' H1) : St G H G' (upd H1 a o) := ⟨s.g, s.n, fun b h z => by
  by_cases e : b = a
  · rw [e, upd_same] at z
    cases z
  · rw [upd_ne e] at z
    exact s.a b h z⟩
end

end ND

set_option Elab.async false
set_option linter.all false
set_option maxRecDepth 100000
set_option maxHeartbeats 4000000
namespace ND
open PySem PySem.Spec PyProof.Rows L2 Evl LK LT LG LS LQ LX LO LN LP
def InS (n : Nat) (z : Int) : Prop := 0 ≤ z ∧ z < 4 * (n : Int)
def okW (xs : List V) : Prop := xs.length = 8 ∧ xs.all wd = true
theorem okW_ints : ∀ {xs : List V}, xs.all wd = true → ∃ ns : List Int, xs = ns.map V.int ∧ ∀ z ∈ ns, 0 ≤ z
  | [], _ => ⟨[], rfl, fun z hz => absurd hz List.not_mem_nil⟩
  | x :: r, h => by
    rw [List.all_cons, Bool.and_eq_true] at h
    obtain ⟨ns, e, hn⟩ := okW_ints h.2
    cases x with
    | int i =>
      have h0 : 0 ≤ i := of_decide_eq_true h.1
      exact ⟨i :: ns, by rw [e]; rfl, fun z hz => by
        rcases List.mem_cons.mp hz with rfl | h
        · exact h0
        · exact hn z h⟩
    | _ => cases h.1
theorem ints_wd {ns : List Int} (h : ∀ z ∈ ns, 0 ≤ z) : (ns.map V.int).all wd = true := by
  rw [List.all_eq_true]
  intro x hx
  obtain ⟨z, hz, rfl⟩ := List.mem_map.mp hx
  exact decide_eq_true (h z hz)
theorem kd_ints {H : Hp} (ns : List Int) : ∀ x ∈ ns.map V.int, ∃ n, Kd H x n := fun x hx => by
  obtain ⟨z, hz, rfl⟩ := List.mem_map.mp hx
  exact ⟨_, .int z⟩
def spSize : Sp := fun vs H Q _ => ∃ z : Int, vs = [.int z] ∧ RetV (.bl (decide (0 ≤ z) && (decide (96 ≤ z) && decide (z ≤ 256)))) H Q
/-- a choice of a cut -/
def wc : V → Bool
  | .int i => decide (0 ≤ i) && decide (i ≤ 8)
  | _ => false
def spChs (Pt : Addr) : Sp := fun vs H Q _ => Tab H Pt ∧ ∃ (a : Addr) (xs : List V), vs = [.ref a] ∧ H a = some (.lst xs) ∧ (∀ x ∈ xs, ∃ n, Kd H x n) ∧ RetV (.bl (xs.all wc)) H Q
def spSec (C : Addr) : Sp := fun vs H Q _ => ∃ G p ka sa wa n d z, vs = [.ref p, .int z] ∧ DK C G H p ka sa wa n d ∧ RetV (.bl (decide (0 ≤ z) && decide (z < 4 * (n : Int)))) H Q
def on (d : Dk) : Prop := d.pw = true ∧ d.bf ≠ some 0
def spBeg (C CO : Addr) : Sp := fun vs H Q E => ∃ G p ka sa wa n d, vs = [.ref p] ∧ DK C G H p ka sa wa n d ∧
  (on d → ∀ H1, (∀ a, H a ≠ none → H1 a ≠ none) → (∀ a o, H a = some o → a ≠ p → H1 a = some o) → DK C G H1 p ka sa wa n { d with bf := d.bf.map (· - 1) } → Q .non H1) ∧
  (¬ on d → ∀ H1, (∀ a, H a ≠ none → H1 a ≠ none) → (∀ a o, H a = some o → a ≠ p → H1 a = some o) → DK C G H1 p ka sa wa n { d with pw := false } → E (.ref CO) none H1)
def spRead (C CN CO : Addr) : Sp := fun vs H Q E => ∃ G p ka sa wa n d z, vs = [.ref p, .int z] ∧ DK C G H p ka sa wa n d ∧
  (d.pw = true → ∀ s : Nat, z = (s : Int) → s < 4 * n → RetL ((due d.kept d.ws s).map V.int) H Q) ∧ (d.pw = false → ∀ H', Ex H H' → E (.ref CO) none H') ∧ (d.pw = true → ¬ InS n z → ∀ H', Ex H H' → E (.ref CN) none H')
def spWrite (C CN CO Pt : Addr) : Sp := fun vs H Q E => ∃ G p ka sa wa n d z u xs, vs = [.ref p, .int z, .ref u] ∧ DK C G H p ka sa wa n d ∧ H u = some (.lst xs) ∧ (∀ x ∈ xs, ∃ k, Kd H x k) ∧ Tab G Pt ∧ d.ws.length < 300 ∧ u ≠ p ∧
  (¬ (InS n z ∧ okW xs) → ∀ H', Ex H H' → E (.ref CN) none H') ∧
  (on d → ∀ (s : Nat) (ns : List Int), z = (s : Int) → s < 4 * n → xs = ns.map V.int → ns.length = 8 → (∀ z ∈ ns, 0 ≤ z) → ∀ G' H1, St G H G' H1 → (∀ a o, H a = some o → a ≠ p → a ≠ sa → a ≠ wa → H1 a = some o) → DK C G' H1 p ka sa wa n { d with ws := d.ws ++ [(s, ns)], bf := d.bf.map (· - 1) } → Q .non H1) ∧
  (¬ on d → InS n z ∧ okW xs → ∀ H1, St G H G H1 → (∀ a o, H a = some o → a ≠ p → H1 a = some o) → DK C G H1 p ka sa wa n { d with pw := false } → E (.ref CO) none H1)
section
variable {P : Program} {w : World} {K : PySem.W.Frag} {mg : Str → Option Value} {base : Heap} {C CN CO : Addr}
theorem ok_size {f fW : Addr} {fd fdW : FuncData} (F : Fun K "is_size" "is_size" sSize f fd) (FW : Fun K "is_word" "is_word" sIw fW fdW) (bW : Binds K fdW ["value"] []) (gW : mg "is_word" = some (.ref fW)) (T : Txt mg K C) : FnOk P w K mg base CX0 2 f fd ["blocks"] spSize := by
  have GW : FnOk P w K mg base CX0 1 fW fdW ["value"] spIw := ok_iw FW T
  obtain ⟨_, gMIN_BLOCKS⟩ := T.gMIN_BLOCKS
  obtain ⟨_, gMAX_BLOCKS⟩ := T.gMAX_BLOCKS
  refine F.ok scSize (fun vs H Q E h => ?_) (fun cdv A outer s H vs Q E hr h => ?_)
  · obtain ⟨z, rfl, _⟩ := h
    rfl
  · obtain ⟨z, rfl, q⟩ := h
    refine ⟨_, (pss_one (ps_ret (pe_and (pe_call GW (hr.mono (by decide)) (by rfl) gW FW.kp bW .nil pass0 (pa_cons (pv 0) pa_nil)) (pe_one (pe_chain op_le op_le (pe_glob (v := .int 96) rfl gMIN_BLOCKS ⟨_, rfl⟩) (pv 0) (pe_glob (v := .int 256) rfl gMAX_BLOCKS ⟨_, rfl⟩)))))), ?_⟩
    exact s_ret (ev_andV (ev_call (vs := [.int z]) (ea_cons (ev_var rfl) ea_nil) (sv_iw (.int z))) (fun _ => ev_chain ev_c (ev_var rfl) ev_c)) q
theorem ok_sec {f fW : Addr} {fd fdW : FuncData} (F : Fun K "_is_sector" "Disk._is_sector" sSec f fd) (FW : Fun K "is_word" "is_word" sIw fW fdW) (bW : Binds K fdW ["value"] []) (gW : mg "is_word" = some (.ref fW)) (T : Txt mg K C) : FnOk P w K mg base CX0 2 f fd ["self", "sector"] (spSec C) := by
  have GW : FnOk P w K mg base CX0 1 fW fdW ["value"] spIw := ok_iw FW T
  obtain ⟨_, gBLOCK_SECTORS⟩ := T.gBLOCK_SECTORS
  refine F.ok scSec (fun vs H Q E h => ?_) (fun cdv A outer s H vs Q E hr h => ?_)
  · obtain ⟨G, p, ka, sa, wa, n, d, z, rfl, _⟩ := h
    rfl
  · obtain ⟨G, p, ka, sa, wa, n, d, z, rfl, D, q⟩ := h
    obtain ⟨dx, ho⟩ := D.o
    refine ⟨_, (pss_one (ps_ret (pe_and (pe_call GW (hr.mono (by decide)) (by rfl) gW FW.kp bW .nil pass0 (pa_cons (pv 1) pa_nil)) (pe_one (pe_cmpR op_lt (pv 1) (pe_op op_mul (pe_glob (v := .int 4) rfl gBLOCK_SECTORS ⟨_, rfl⟩) (pe_fld (pv 0) rfl)) (nomark _)))))), ?_⟩
    exact s_ret (ev_andV (ev_call (vs := [.int z]) (ea_cons (ev_var rfl) ea_nil) (sv_iw (.int z))) (fun _ => ev_op (ev_var rfl) (ev_op ev_c (ev_fld (ev_var rfl) ho T.cl T.nb d_b) (rv_I (.inl ⟨by decide, by decide⟩))) rv_I0)) q
theorem sv_sec {G H : Hp} {p ka sa wa : Addr} {n : Nat} {d : Dk} {z : Int} (D : DK C G H p ka sa wa n d) : SpV (spSec C) [.ref p, .int z] H (.bl (decide (0 ≤ z) && decide (z < 4 * (n : Int)))) := fun H1 e1 Q q E => ⟨G, p, ka, sa, wa, n, d, z, rfl, D.ex e1, q⟩
theorem bf_min (k : Nat) : bfV ((some (k + 1)).map (· - 1)) = .int (((k + 1 : Nat) : Int) - 1) := by
  exact congrArg V.int (show ((k + 1 - 1 : Nat) : Int) = ((k + 1 : Nat) : Int) - 1 by omega)
theorem ok_beg {f : Addr} {fd : FuncData} (F : Fun K "_begin_operation" "Disk._begin_operation" sBeg f fd) (T : Txt mg K C) (XO : Xc K mg "PowerOff" CO) : FnOk P w K mg base (L2.CX P w) 1 f fd ["self"] (spBeg C CO) := by
  refine F.okX scBeg (fun vs H Q E h => ?_) (fun cdv A outer s H vs Q E hr h => ?_)
  · obtain ⟨G, p, ka, sa, wa, n, d, rfl, _⟩ := h
    rfl
  · obtain ⟨G, p, ka, sa, wa, n, d, rfl, D, q, qE⟩ := h
    obtain ⟨dx, ho⟩ := D.o
    refine ⟨_, (pss_cut (ps_if (pt_cmpR op_eq (pe_fld (pv 0) rfl) pe_int (nomark _)) (pss_one (ps_fld (pv 0) pe_bl rfl)) pss_nil)
      (pss_cons (ps_if (pt_not (pt_val (pe_fld (pv 0) rfl))) (pss_one (ps_raise0 rfl XO (takes_of rfl rfl rfl rfl) (by rfl))) pss_nil)
      (pss_one (ps_if (pt_cmpR op_notN (pe_fld (pv 0) rfl) pe_non (nomark _)) (pss_one (ps_fldaug (pv 0) pe_int in_sub)) pss_nil)))), ?_⟩
    have kp : ∀ {H1 : Hp} {o : HO}, Ex H H1 → (∀ a, H a ≠ none → (upd H1 p o) a ≠ none) ∧ ∀ a u, H a = some u → a ≠ p → (upd H1 p o) a = some u := fun e => ⟨fun a h z => by
      by_cases ha : a = p
      · rw [ha, upd_same] at z
        cases z
      · rw [upd_ne ha] at z
        exact h (fresh_back e z), fun a u h ha => by
        rw [upd_ne ha]
        exact e _ _ h⟩
    have mk : ∀ {H1 : Hp} {pw : Bool} {bf : Option Nat}, Ex H H1 → DK C G (upd H1 p (.ins C dx (dfl n ka sa wa pw bf))) p ka sa wa n { d with pw := pw, bf := bf } := fun e => by
      have D1 := D.ex e
      obtain ⟨n1, n2, n3⟩ := D.np
      exact ⟨D1.g.mut D.gp, D.gp, D.gk, D.gs, D.gw, D.nks, D.nkw, D.nsw, ⟨dx, upd_same⟩, D1.k.at (Ex.refl _) (upd_ne n1.symm), D1.s.at (Ex.refl _) (upd_ne n2.symm), D1.w.at (Ex.refl _) (upd_ne n3.symm), D.n0, D.n1, D.wl, D.ok, D.kz⟩
    have sc0 : scal (bfV d.bf) (.int 0) = true := by cases d.bf <;> rfl
    by_cases h0 : d.bf = some 0
    · have hno : ¬ on d := fun h => h.2 h0
      refine q_cut (M := fun σ2 H2 => σ2 = [some (.ref p)] ∧ DK C G H2 p ka sa wa n { d with pw := false } ∧ (∀ a, H a ≠ none → H2 a ≠ none) ∧ ∀ a u, H a = some u → a ≠ p → H2 a = some u) ?_ ?_
      · refine s_when (b := true) (et_is (et_test (ev_op (ev_fld (ev_var rfl) ho T.cl T.nf d_f) ev_c (rv_eq sc0))) (by rw [h0]; decide)) (fun _ H1 e1 => ?_) (fun h => by cases h)
        refine s_fld ev_c (ev_var rfl) (e1 _ _ ho) T.cl T.np (by show 6 < 1000; decide) fun H2 e2 => ?_
        rw [d_pp]
        have k := kp (o := .ins C dx (dfl n ka sa wa false d.bf)) (e1.trans e2)
        exact ⟨rfl, mk (pw := false) (bf := d.bf) (e1.trans e2), k.1, k.2⟩
      · rintro σ2 H2 ⟨rfl, D2, k1, k2⟩
        obtain ⟨dx2, ho2⟩ := D2.o
        exact q_when (b := true) (et_is (et_not (et_B (ev_fld (ev_var rfl) ho2 T.cl T.np d_p))) rfl) (fun _ H3 e3 => qE hno H3 (fun a h z => k1 a h (fresh_back e3 z)) (fun a u h ha => e3 _ _ (k2 a u h ha)) (D2.ex e3)) (fun h => by cases h)
    · refine q_cut (M := fun σ2 H2 => σ2 = [some (.ref p)] ∧ Ex H H2) ?_ ?_
      · refine s_when (b := false) (et_is (et_test (ev_op (ev_fld (ev_var rfl) ho T.cl T.nf d_f) ev_c (rv_eq sc0))) (decide_eq_false fun e => h0 (by
          cases hb : d.bf with
          | none => rw [hb] at e; cases e
          | some k =>
            rw [hb] at e
            have := V.int.inj e
            have : k = 0 := by omega
            rw [this]))) (fun h => by cases h) (fun _ H1 e1 => ⟨rfl, e1⟩)
      · rintro σ2 H2 ⟨rfl, e2⟩
        cases hp : d.pw with
        | false =>
          have hno : ¬ on d := fun h => by have h1 := h.1; rw [hp] at h1; cases h1
          have ed : ({ d with pw := false } : Dk) = d := by rw [← hp]
          exact q_when (b := true) (et_is (et_not (et_B (ev_fld (ev_var rfl) (e2 _ _ ho) T.cl T.np d_p))) (by rw [hp]; rfl)) (fun _ H3 e3 => qE hno H3 (fun a h z => h (fresh_back (e2.trans e3) z)) (fun a u h ha => e3 _ _ (e2 _ _ h)) (by rw [ed]; exact D.ex (e2.trans e3))) (fun h => by cases h)
        | true =>
          have hon : on d := ⟨hp, h0⟩
          refine q_when (b := false) (et_is (et_not (et_B (ev_fld (ev_var rfl) (e2 _ _ ho) T.cl T.np d_p))) (by rw [hp]; rfl)) (fun h => by cases h) (fun _ H3 e3 => ?_)
          cases hb : d.bf with
          | none =>
            refine s_when (b := false) (et_is (et_test (ev_op (ev_fld (ev_var rfl) (e3 _ _ (e2 _ _ ho)) T.cl T.nf d_f) ev_c rv_notN)) (by rw [hb]; decide)) (fun h => by cases h) (fun _ H4 e4 => ?_)
            have ed : ({ d with bf := d.bf.map (· - 1) } : Dk) = d := by
              cases d
              simp only at hb
              rw [hb]
              rfl
            exact q hon H4 (fun a h z => h (fresh_back ((e2.trans e3).trans e4) z)) (fun a u h ha => e4 _ _ (e3 _ _ (e2 _ _ h))) (by rw [ed]; exact D.ex ((e2.trans e3).trans e4))
          | some k =>
            have hk : k ≠ 0 := fun e => h0 (by rw [hb, e])
            obtain ⟨j, rfl⟩ : ∃ j, k = j + 1 := ⟨k - 1, by omega⟩
            refine s_when (b := true) (et_is (et_test (ev_op (ev_fld (ev_var rfl) (e3 _ _ (e2 _ _ ho)) T.cl T.nf d_f) ev_c rv_notN)) (by rw [hb]; show (!decide (V.int ((j + 1 : Nat) : Int) = V.non)) = true; rw [decide_eq_false (fun e => by cases e)]; rfl)) (fun _ H4 e4 => ?_) (fun h => by cases h)
            have ho4 := e4 _ _ (e3 _ _ (e2 _ _ ho))
            have e24 := (e2.trans e3).trans e4
            refine ⟨_, rfl, p, C, dx, _, _, rfl, ho4, T.cl, T.nf, d_f, ⟨((j + 1 : Nat) : Int), 1, by rw [hb]; rfl, rfl, dx, _, ho4, by show 6 < 1000; decide, ?_⟩⟩
            rw [← bf_min j, d_pf]
            have k := kp (o := .ins C dx (dfl n ka sa wa d.pw ((some (j + 1)).map (· - 1)))) e24
            have m := mk (pw := d.pw) (bf := (some (j + 1)).map (· - 1)) e24
            exact q hon _ k.1 k.2 (by rw [hb]; exact m)
theorem ok_read {f fS : Addr} {fd fdS : FuncData} (F : Fun K "read" "Disk.read" sRead f fd) (Gis_sector : FnOk P w K mg base CX0 2 fS fdS ["self", "sector"] (spSec C)) (bis_sector : Binds K fdS ["self", "sector"] []) (mis_sector : Meth K C "_is_sector" fS) (T : Txt mg K C) (XO : Xc K mg "PowerOff" CO) (XN : Xc K mg "NotValid" CN) : FnOk P w K mg base (L2.CX P w) 3 f fd ["self", "sector"] (spRead C CN CO) := by
  refine F.okX scRead (fun vs H Q E h => ?_) (fun cdv A outer s H vs Q E hr h => ?_)
  · obtain ⟨G, p, ka, sa, wa, n, d, z, rfl, _⟩ := h
    rfl
  · obtain ⟨G, p, ka, sa, wa, n, d, z, rfl, D, q, qO, qN⟩ := h
    obtain ⟨dx, ho⟩ := D.o
    refine ⟨_, (pss_cons (ps_if (pt_not (pt_val (pe_fld (pv 0) rfl))) (pss_one (ps_raise0 rfl XO (takes_of rfl rfl rfl rfl) (by rfl))) pss_nil)
      (pss_cons (ps_if (pt_not (pt_val (pe_meth (pv 0) T.cl mis_sector Gis_sector (hr.mono (by decide)) bis_sector .nil pass0 (pa_cons (pv 1) pa_nil)))) (pss_one (ps_raise0 rfl XN (takes_of rfl rfl rfl rfl) (by rfl))) pss_nil)
      (pss_one (ps_ret (pe_callTy call_list_of (by rfl) T.list (by decide +kernel) (pa_cons (pe_ix ix_list (pe_fld (pv 0) rfl) (pv 1) (fun _ _ => rfl)) pa_nil)))))), ?_⟩
    refine q_when (et_not (et_B (ev_fld (ev_var rfl) ho T.cl T.np d_p))) (fun hb H1 e1 => qO (by simpa using hb) H1 e1) (fun hb H1 e1 => ?_)
    have hp : d.pw = true := by simpa using hb
    refine q_when (et_not (et_B (ev_meth (ev_var rfl) (e1 _ _ ho) (d_no ⟨by decide +kernel, by decide +kernel, by decide +kernel, by decide +kernel, by decide +kernel, by decide +kernel⟩) (ea_cons (ev_var rfl) ea_nil) (sv_sec (z := z) (D.ex e1))))) (fun hb H2 e2 => qN hp (fun h => by
      rw [decide_eq_true h.1, decide_eq_true h.2] at hb
      cases hb) H2 (e1.trans e2)) (fun hb H2 e2 => ?_)
    have hz : 0 ≤ z ∧ z < 4 * (n : Int) := by simpa using hb
    obtain ⟨s, hs⟩ := Int.eq_ofNat_of_zero_le hz.1
    have hlt : s < 4 * n := by omega
    have D2 := D.ex (e1.trans e2)
    obtain ⟨ks, h1, h2, h3⟩ := D2.s
    have hks : s < ks.length := by omega
    have ek := List.getElem?_eq_getElem hks
    refine s_retL (el_list (ev_op (ev_fld (ev_var rfl) (e2 _ _ (e1 _ _ ho)) T.cl T.ns d_s) (ev_var rfl) (rv_ixL (v := .ref ks[s]) (sq_of h1) (at_of hs (by rw [List.getElem?_map, ek]; rfl)))) (sq_of (D2.g _ _ (h3 s _ ek)))) fun l H3 hl e3 h3 => q hp s hs hlt l H3 (fresh_back (e1.trans e2) hl) ((e1.trans e2).trans e3) h3
end

end ND

set_option Elab.async false
set_option linter.all false
set_option maxRecDepth 100000
set_option maxHeartbeats 4000000
namespace ND
open PySem PySem.Spec PyProof.Rows L2 Evl LK LT LG LS LQ LX LO LN LP
def nV (k : Nat) : V := .int (k : Int)
/-! ### writes and what becomes of them -/
def Rw (H0 : Hp) (ws : List (Nat × List Int)) : Rel := fun i prev y H => ∃ t l w, y = .ref t ∧ ws[i]? = some w ∧ H0 t = none ∧ H0 l = none ∧ H t = some (.tup [.int (w.1 : Int), .ref l]) ∧ H l = some (.lst (w.2.map V.int)) ∧ ∀ t', V.ref t' ∈ prev → ∃ u' l', H t' = some (.tup [u', .ref l']) ∧ l' ≠ l
theorem rw_mon (H0 : Hp) (ws : List (Nat × List Int)) : Mon (Rw H0 ws) := fun i prev y H H' e ⟨t, l, w, h1, h2, h3, h4, h5, h6, h7⟩ => ⟨t, l, w, h1, h2, h3, h4, e _ _ h5, e _ _ h6, fun t' ht => let ⟨u', l', a, b⟩ := h7 t' ht; ⟨u', l', e _ _ a, b⟩⟩
def Rl (H0 : Hp) (f : Nat → List Int) : Rel := fun i prev y H => ∃ l, y = .ref l ∧ H0 l = none ∧ H l = some (.lst ((f i).map V.int)) ∧ ∀ l', V.ref l' ∈ prev → l' ≠ l
theorem rl_mon (H0 : Hp) (f : Nat → List Int) : Mon (Rl H0 f) := fun i prev y H H' e ⟨l, h1, h2, h3, h4⟩ => ⟨l, h1, h2, e _ _ h3, h4⟩
theorem alloc {H H1 : Hp} {a : Addr} {o : HO} (h : H a = some o) (hn : H1 a = none) (e : Ex H H1) : False := by
  rw [e _ _ h] at hn
  cases hn
def spSet (C : Addr) : Sp := fun vs H Q _ => ∃ G p ka sa wa n d c, ∃ cs : List Nat, vs = [.ref p, .ref c] ∧ DK C G H p ka sa wa n d ∧ H c = some (.lst (cs.map nV)) ∧ c ≠ ka ∧
  ∀ G' H1 sa' wa', St G H G' H1 → (∀ a o, H a = some o → a ≠ p → a ≠ ka → H1 a = some o) → DK C G' H1 p ka sa' wa' n { d with kept := aftN d.kept d.ws (fun j => cs.getD j 0) d.ws.length, ws := [] } → Q .non H1
def spFlush (C CO : Addr) : Sp := fun vs H Q E => ∃ G p ka sa wa n d, vs = [.ref p] ∧ DK C G H p ka sa wa n d ∧
  (on d → ∀ G' H1 sa' wa', St G H G' H1 → (∀ a o, H a = some o → a ≠ p → a ≠ ka → H1 a = some o) → DK C G' H1 p ka sa' wa' n { kept := aftN d.kept d.ws (fun _ => 8) d.ws.length, ws := [], pw := d.pw, bf := d.bf.map (· - 1) } → Q .non H1) ∧
  (¬ on d → ∀ H1, St G H G H1 → (∀ a o, H a = some o → a ≠ p → H1 a = some o) → DK C G H1 p ka sa wa n { d with pw := false } → E (.ref CO) none H1)
def spCut (C CN Pt : Addr) : Sp := fun vs H Q E => ∃ G p ka sa wa n d c xs, vs = [.ref p, .ref c] ∧ DK C G H p ka sa wa n d ∧ H c = some (.lst xs) ∧ (∀ x ∈ xs, ∃ k, Kd H x k) ∧ Tab G Pt ∧ c ≠ ka ∧
  (xs.all wc = false → ∀ H', Ex H H' → E (.ref CN) none H') ∧
  (∀ cs : List Nat, xs = (cs.map nV) → (∀ k ∈ cs, k ≤ 8) → ∀ G' H1 sa' wa', St G H G' H1 → (∀ a o, H a = some o → a ≠ p → a ≠ ka → H1 a = some o) → DK C G' H1 p ka sa' wa' n { kept := aftN d.kept d.ws (fun j => cs.getD j 0) d.ws.length, ws := [], pw := true, bf := none } → Q .non H1)
def spWait (C : Addr) : Sp := fun vs H Q _ => ∃ G p ka sa wa n d, vs = [.ref p] ∧ DK C G H p ka sa wa n d ∧ ∀ L ys H1, H L = none → Ex H H1 → H1 L = some (.lst ys) → ys.length = d.ws.length → (∀ i y, ys[i]? = some y → Rw H d.ws i (ys.take i) y H1) → Q (.ref L) H1
def spImgs (C : Addr) (g : Dk → Nat → List Int) : Sp := fun vs H Q _ => ∃ G p ka sa wa n d, vs = [.ref p] ∧ DK C G H p ka sa wa n d ∧ ∀ L ys H1, H L = none → Ex H H1 → H1 L = some (.lst ys) → ys.length = 4 * n → (∀ i y, ys[i]? = some y → Rl H (g d) i (ys.take i) y H1) → Q (.ref L) H1
def spInit (C : Addr) : Sp := fun vs H Q _ => ∃ G p dx n, vs = [.ref p, .int ((n : Nat) : Int)] ∧ Ex G H ∧ G p = none ∧ H p = some (.ins C dx []) ∧ 96 ≤ n ∧ n ≤ 256 ∧ ∀ G' ka sa wa H1, St G H G' H1 → (∀ a o, H a = some o → a ≠ p → H1 a = some o) → DK C G' H1 p ka sa wa n ⟨fun _ => Z8, [], true, none⟩ → Q .non H1
section
variable {P : Program} {w : World} {K : PySem.W.Frag} {mg : Str → Option Value} {base : Heap} {C CN CO : Addr}
theorem ok_write {f fS fA fB Pt : Addr} {fd fdS fdA fdB : FuncData} (F : Fun K "write" "Disk.write" sWrite f fd) (Gis_sector : FnOk P w K mg base CX0 2 fS fdS ["self", "sector"] (spSec C)) (bis_sector : Binds K fdS ["self", "sector"] []) (mis_sector : Meth K C "_is_sector" fS) (FAw : Fun K "are_words" "are_words" sAre fA fdA) (GAw : FnOk P w K mg base CX0 1 fA fdA ["values", "many"] (spAre Pt)) (bAw : Binds K fdA ["values", "many"] []) (gAw : mg "are_words" = some (.ref fA))
    (Gbegin_operation : FnOk P w K mg base (L2.CX P w) 1 fB fdB ["self"] (spBeg C CO)) (bbegin_operation : Binds K fdB ["self"] []) (mbegin_operation : Meth K C "_begin_operation" fB) (T : Txt mg K C) (XN : Xc K mg "NotValid" CN) : FnOk P w K mg base (L2.CX P w) 3 f fd ["self", "sector", "words"] (spWrite C CN CO Pt) := by
  obtain ⟨_, gSECTOR_WORDS⟩ := T.gSECTOR_WORDS
  refine F.okX scWrite (fun vs H Q E h => ?_) (fun cdv A outer s H vs Q E hr h => ?_)
  · obtain ⟨G, p, ka, sa, wa, n, d, z, u, xs, rfl, _⟩ := h
    rfl
  · obtain ⟨G, p, ka, sa, wa, n, d, z, u, xs, rfl, D, hu, hk, hT, hl, hup, qN, q, qO⟩ := h
    obtain ⟨dx, ho⟩ := D.o
    refine ⟨_, (pss_cons (ps_if (PW.pt (pw_or (pt_not (pt_val (pe_meth (pv 0) T.cl mis_sector Gis_sector (hr.mono (by decide)) bis_sector .nil pass0 (pa_cons (pv 1) pa_nil)))) (pw_or1 (pt_not (pt_val (pe_call GAw (hr.mono (by decide)) (by rfl) gAw FAw.kp bAw .nil pass0 (pa_cons (pv 2) (pa_cons (pe_glob (v := .int 8) rfl gSECTOR_WORDS ⟨_, rfl⟩) pa_nil)))))))) (pss_one (ps_raise0 rfl XN (takes_of rfl rfl rfl rfl) (by rfl))) pss_nil)
      (pss_cons (ps_expr (pe_meth0 (pv 0) T.cl mbegin_operation Gbegin_operation (hr.mono (by decide)) bbegin_operation .nil (pass_own (takes_of rfl rfl rfl rfl))))
      (pss_cons (ps_set (i := 3) scWrite.nd rfl (Or.inl rfl) (pe_callTy call_list_of (by rfl) T.list (by decide +kernel) (pa_cons (pv 2) pa_nil)))
      (pss_cons (ps_expr (pe_bm PySem.F.plainAttrs_list PySem.F.slot_list_append PySem.F.type_list_append mt_append (pe_fld (pv 0) rfl) (pa_cons (pe_tup (pa_cons (pv 1) (pa_cons (pv 3) pa_nil))) pa_nil)))
      (pss_one (ps_asg (pv 3) (pg_sub (pe_fld (pv 0) rfl) (pv 1) set_list))))))), ?_⟩
    refine q_when (et_or (et_not (et_B (ev_meth (ev_var rfl) ho (d_no ⟨by decide +kernel, by decide +kernel, by decide +kernel, by decide +kernel, by decide +kernel, by decide +kernel⟩) (ea_cons (ev_var rfl) ea_nil) (sv_sec (z := z) D)))) (fun _ => et_not (et_B (ev_call (vs := [.ref u, .int 8]) (ea_cons (ev_var rfl) (ea_cons ev_c ea_nil)) (fun H1 e1 Q' q' E' => ⟨(hT.mono D.g).mono e1, u, xs, 8, rfl, e1 _ _ hu, fun x hx => let ⟨k, h⟩ := hk x hx; ⟨k, h.mono e1⟩, q'⟩))))) (fun hb H1 e1 => ?_) (fun hb H1 e1 => ?_)
    · refine qN (fun ⟨h1, h2, h3⟩ => ?_) H1 e1
      rw [decide_eq_true h1.1, decide_eq_true h1.2, h3, h2] at hb
      cases hb
    · have hz : InS n z ∧ okW xs := by
        simp at hb
        refine ⟨⟨by omega, by omega⟩, by omega, ?_⟩
        rw [List.all_eq_true]
        exact hb.2.2
      obtain ⟨s, hs⟩ := Int.eq_ofNat_of_zero_le hz.1.1
      have hlt : s < 4 * n := by have := hz.1.2; omega
      obtain ⟨ns, hns, hnn⟩ := okW_ints hz.2.2
      have hnl : ns.length = 8 := by have := hz.2.1; rw [hns, List.length_map] at this; exact this
      refine q_m (ev_var rfl) (e1 _ _ ho) (d_no ⟨by decide +kernel, by decide +kernel, by decide +kernel, by decide +kernel, by decide +kernel, by decide +kernel⟩) ea_nil fun H2 e2 => ⟨G, p, ka, sa, wa, n, d, rfl, D.ex (e1.trans e2), fun hon H3 al fr D3 => ?_, fun hno H3 al fr D3 => qO hno hz H3 ⟨Ex.refl _, fun _ _ g => g, fun a h z => al a (fun z => h (fresh_back (e1.trans e2) z)) z⟩ (fun a o h hp => fr a o ((e1.trans e2) _ _ h) hp) D3⟩
      have e12 := e1.trans e2
      have al3 : ∀ a, H a ≠ none → H3 a ≠ none := fun a h => al a (fun z => h (fresh_back e12 z))
      have hu3 := fr _ _ (e12 _ _ hu) hup
      refine q_asgL (el_list (ev_var rfl) (sq_of hu3)) fun l H4 hl4 e4 h4 => ?_
      have D4 := D3.ex e4
      obtain ⟨dx4, ho4⟩ := D4.o
      obtain ⟨n1, n2, n3⟩ := D4.np
      obtain ⟨ts, w1, w2, w3⟩ := D4.w
      obtain ⟨ks, s1, s2, s3⟩ := D4.s
      have htl : (ts.map V.ref).length < 100000 := by rw [List.length_map, w2]; show d.ws.length < 100000; omega
      refine q_appU w1 (ev_fld (ev_var rfl) ho4 T.cl T.nw d_w) (eu_tup (ea_cons (ev_var rfl) (ea_cons (ev_var rfl) ea_nil)) (by simp)) htl fun t H5 ht5 e5 h5 => ?_
      have sa6 : (upd H5 wa (.lst (ts.map V.ref ++ [.ref t]))) sa = some (.lst (ks.map V.ref)) := by rw [upd_ne D.nsw]; exact e5 _ _ s1
      have ho6 : (upd H5 wa (.lst (ts.map V.ref ++ [.ref t]))) p = some (.ins C dx4 (dfl n ka sa wa d.pw (d.bf.map (· - 1)))) := by rw [upd_ne n3]; exact e5 _ _ ho4
      refine s_setL (j := s) sa6 (ev_var rfl) (ev_fld (ev_var rfl) ho6 T.cl T.ns d_s) (by rw [← hs]; exact ev_var rfl) (by rw [List.length_map, s2]; exact hlt) fun H7 e7 => ?_
      have sT : ∀ a o, H5 a = some o → a ≠ wa → a ≠ sa → (upd H7 sa (.lst ((ks.map V.ref).set s (.ref l)))) a = some o := fun a o h h1 h2 => by
        rw [upd_ne h2]
        exact e7 _ _ (by rw [upd_ne h1]; exact h)
      have wT : (upd H7 sa (.lst ((ks.map V.ref).set s (.ref l)))) wa = some (.lst (ts.map V.ref ++ [.ref t])) := by
        rw [upd_ne D.nsw.symm]
        exact e7 _ _ upd_same
      have sS : (upd H7 sa (.lst ((ks.map V.ref).set s (.ref l)))) sa = some (.lst ((ks.map V.ref).set s (.ref l))) := upd_same
      have gT : Ex G (upd H7 sa (.lst ((ks.map V.ref).set s (.ref l)))) := (((D4.g.trans e5).mut D.gw).trans e7).mut D.gs
      have aT : ∀ a, H5 a ≠ none → (upd H7 sa (.lst ((ks.map V.ref).set s (.ref l)))) a ≠ none := fun a h z => by
        by_cases h2 : a = sa
        · rw [h2, upd_same] at z
          cases z
        · rw [upd_ne h2] at z
          have z5 := fresh_back e7 z
          by_cases h1 : a = wa
          · rw [h1, upd_same] at z5
            cases z5
          · rw [upd_ne h1] at z5
            exact h z5
      generalize upd H7 sa (.lst ((ks.map V.ref).set s (.ref l))) = HX at *
      have e45 := e4.trans e5
      obtain ⟨ap3, ak3, as3, aw3⟩ := D3.al
      obtain ⟨ap, ak, as, aw⟩ := D.al
      obtain ⟨ap4, ak4, as4, aw4⟩ := D4.al
      have l_wa : l ≠ wa := fun e => aw3 (by rw [← e]; exact hl4)
      have l_sa : l ≠ sa := fun e => as3 (by rw [← e]; exact hl4)
      have t_wa : t ≠ wa := fun e => aw4 (by rw [← e]; exact ht5)
      have t_sa : t ≠ sa := fun e => as4 (by rw [← e]; exact ht5)
      have hl0 : H l = none := Classical.byContradiction fun h => al3 l h hl4
      have ht0 : H t = none := Classical.byContradiction fun h => al3 t h (fresh_back e4 ht5)
      have gl : grow G H HX (fun _ => False) l = some (.lst xs) := grow_new (fresh_back D.g hl0) hl0 id (sT l _ (e5 _ _ h4) l_wa l_sa)
      have gt : grow G H HX (fun _ => False) t = some (.tup [.int z, .ref l]) := grow_new (fresh_back D.g ht0) ht0 id (sT t _ h5 t_wa t_sa)
      obtain ⟨ks0, k1, k2, k3⟩ := D4.k
      refine q hon s ns hs hlt hns hnl hnn (grow G H HX fun _ => False) HX ⟨grow_ex, fun a h g => grow_no h g, fun a h => aT a (fun z => al3 a h (fresh_back e45 z))⟩ (fun a o h hp hsa hwa => sT a o (e45 _ _ (fr a o (e12 _ _ h) hp)) hwa hsa)
        ⟨grow_sub gT, grow_no ap D.gp, grow_no ak D.gk, grow_no as D.gs, grow_no aw D.gw, D.nks, D.nkw, D.nsw, ⟨dx4, sT p _ (e5 _ _ ho4) n3 n2⟩, ⟨ks0, sT ka _ (e5 _ _ k1) D.nkw D.nks, k2, fun i a ha => grow_ex _ _ (k3 i a ha)⟩, ⟨ks.set s l, by rw [List.map_set]; exact sS, by rw [List.length_set, s2], fun i a ha => ?_⟩, ⟨ts ++ [t], by rw [List.map_append]; exact wT, by rw [List.length_append, List.length_append, w2]; rfl, fun i t' w' ht' hw' => ?_⟩, D.n0, D.n1, ?_, ?_, D.kz⟩
      · show grow G H HX (fun _ => False) a = some (.lst ((due d.kept (d.ws ++ [(s, ns)]) i).map V.int))
        rw [due_snoc]
        unfold fset
        by_cases hi : i = s
        · subst hi
          rw [List.getElem?_set_self (by rw [s2]; exact hlt)] at ha
          cases ha
          rw [if_pos rfl, gl, hns]
        · rw [List.getElem?_set_ne (fun e => hi e.symm)] at ha
          rw [if_neg hi]
          exact grow_ex _ _ (s3 i a ha)
      · by_cases hi : i < ts.length
        · rw [List.getElem?_append_left hi] at ht'
          rw [List.getElem?_append_left (by rw [← w2]; exact hi)] at hw'
          obtain ⟨l', a, b⟩ := w3 i t' w' ht' hw'
          exact ⟨l', grow_ex _ _ a, grow_ex _ _ b⟩
        · have hi2 : i = ts.length := by
            have := (List.getElem?_eq_some_iff.mp ht').1
            rw [List.length_append] at this
            simp only [List.length_cons, List.length_nil] at this
            omega
          subst hi2
          rw [List.getElem?_append_right (Nat.le_refl _), Nat.sub_self] at ht'
          rw [w2, List.getElem?_append_right (Nat.le_refl _), Nat.sub_self] at hw'
          cases ht'
          cases hw'
          exact ⟨l, by rw [gt, hs], by rw [gl, hns]⟩
      · show (d.ws ++ [(s, ns)]).length ≤ 300
        rw [List.length_append]
        simp only [List.length_cons, List.length_nil]
        omega
      · intro w' hw'
        rcases List.mem_append.mp hw' with h | h
        · exact D.ok w' h
        · rw [List.mem_singleton.mp h]
          exact ⟨hlt, hnl⟩
theorem ok_set {f : Addr} {fd : FuncData} (F : Fun K "_settle_writes" "Disk._settle_writes" sSet f fd) (T : Txt mg K C) : FnOk P w K mg base CX0 1 f fd ["self", "choices"] (spSet C) := by
  refine F.ok scSet (fun vs H Q E h => ?_) (fun cdv A outer s H vs Q E hr h => ?_)
  · obtain ⟨G, p, ka, sa, wa, n, d, c, cs, rfl, _⟩ := h
    rfl
  · obtain ⟨G, p, ka, sa, wa, n, d, c, cs, rfl, D, hc, hck, q⟩ := h
    obtain ⟨dx, ho⟩ := D.o
    obtain ⟨n1, n2, n3⟩ := D.np
    obtain ⟨ap, ak, as, aw⟩ := D.al
    obtain ⟨ts, w1, w2, w3⟩ := D.w
    refine ⟨_, (pss_cons (ps_for PassesOwn.never rfl (pi_zip (by rfl) T.zip (pa_cons (pe_fld (pv 0) rfl) (pa_cons (pv 1) pa_nil))) (pg_tup (by rfl) (pgs_cons (pg_tup (by rfl) (pgs_cons (pg_name (i := 2) scSet.nd rfl (Or.inl rfl)) (pgs_cons (pg_name (i := 3) scSet.nd rfl (Or.inl rfl)) pgs_nil))) (pgs_cons (pg_name (i := 4) scSet.nd rfl (Or.inl rfl)) pgs_nil))) (pss_one (ps_asg (pe_op op_cat (pe_slice sl_list (pv 3) po_none (po_some (pv 4))) (pe_slice sl_list (pe_ix ix_list (pe_fld (pv 0) rfl) (pv 2) (fun _ _ => rfl)) (po_some (pv 4)) po_none)) (pg_sub (pe_fld (pv 0) rfl) (pv 2) set_list))))
      (pss_cons (ps_fld (pv 0) (pe_callTy call_list_of (by rfl) T.list (by decide +kernel) (pa_cons (pe_fld (pv 0) rfl) pa_nil)) rfl)
      (pss_one (ps_fld (pv 0) (pe_lst pa_nil) rfl)))), ?_⟩
    refine q_forZ (ea_cons (ev_fld (ev_var rfl) ho T.cl T.nw d_w) (ea_cons (ev_var rfl) ea_nil)) (sq_of w1) (sq_of hc) (fun i σ' H' => ∃ (y2 y3 y4 : Option V) (ks : List Addr), σ' = [some (.ref p), some (.ref c), y2, y3, y4] ∧ Ex G H' ∧ (∀ a, H a ≠ none → H' a ≠ none) ∧ (∀ a o, H a = some o → a ≠ ka → H' a = some o) ∧ H' ka = some (.lst (ks.map V.ref)) ∧ ks.length = 4 * n ∧
      ∀ (j : Nat) (a : Addr), ks[j]? = some a → G a = some (.lst ((aftN d.kept d.ws (fun j => cs.getD j 0) i j).map V.int)) ∨ (H a = none ∧ H' a = some (.lst ((aftN d.kept d.ws (fun j => cs.getD j 0) i j).map V.int)))) ?_ ?_ ?_ ?_
    · intro H1 e1
      obtain ⟨ks, k1, k2, k3⟩ := D.k
      exact ⟨none, none, none, ks, rfl, D.g.trans e1, fun a h z => h (fresh_back e1 z), fun a o h _ => e1 _ _ h, e1 _ _ k1, k2, fun j a ha => .inl (k3 j a ha)⟩
    · rintro i σ' H' ⟨y2, y3, y4, ks, rfl, g', al, fr, k1, k2, k3⟩
      exact ⟨sq_of (fr _ _ w1 D.nkw.symm), sq_of (fr _ _ hc hck)⟩
    · rintro i x y TT σ' H' hx hy ⟨y2, y3, y4, ks, rfl, g', al, fr, k1, k2, k3⟩ hTT
      rw [List.getElem?_map] at hx hy
      obtain ⟨t, ht, rfl⟩ := Option.map_eq_some_iff.mp hx
      obtain ⟨m, hm, hmy⟩ := Option.map_eq_some_iff.mp hy
      obtain rfl : y = V.int (m : Int) := hmy.symm
      have hi : i < d.ws.length := by rw [← w2]; exact (List.getElem?_eq_some_iff.mp ht).1
      have hwi := List.getElem?_eq_getElem hi
      generalize d.ws[i] = wv at hwi
      obtain ⟨l, g1, g2⟩ := w3 i t wv ht hwi
      obtain ⟨hs, h8⟩ := D.ok wv (List.mem_of_getElem? hwi)
      have eN := Ex.new (o := .tup [.ref t, .int (m : Int)]) hTT
      have gN := g'.trans eN
      have kk := eN _ _ k1
      refine ⟨TT, [.ref t, .int (m : Int)], rfl, st_of upd_same, rfl, .ref t, [.int (m : Int)], rfl, t, [.int (wv.1 : Int), .ref l], rfl, st_of (gN _ _ g1), rfl, _, [_], rfl, _, [], rfl, rfl, _, [], rfl, rfl, ?_⟩
      have hks : wv.1 < ks.length := by rw [k2]; exact hs
      have ek := List.getElem?_eq_getElem hks
      generalize ks[wv.1] = b at ek
      have hb : (upd H' TT (.tup [.ref t, .int (m : Int)])) b = some (.lst ((aftN d.kept d.ws (fun j => cs.getD j 0) i wv.1).map V.int)) := by
        rcases k3 _ _ ek with h | h
        · exact gN _ _ h
        · exact eN _ _ h.2
      have hpN := eN _ _ (fr _ _ ho n1)
      generalize upd H' TT (.tup [.ref t, .int (m : Int)]) = HN at *
      have hlen := aft_len (c := fun j => cs.getD j 0) D.kz (fun w hw => (D.ok w hw).2) i (by omega) wv.1
      refine s_setLL (j := wv.1) (ys := ((wv.2.take m ++ (aftN d.kept d.ws (fun j => cs.getD j 0) i wv.1).drop m)).map V.int) kk (el_is (el_catL (el_sl (ev_var rfl) eo_none (eo_some (ev_var rfl)) (sq_of (gN _ _ g2))) (el_sl (ev_op (ev_fld (ev_var rfl) hpN T.cl T.nk d_k) (ev_var rfl) (rv_ixL (v := .ref b) (sq_of kk) (atI_nat (by rw [List.getElem?_map, ek]; rfl)))) (eo_some (ev_var rfl)) eo_none (sq_of hb)) ?_) ?_) (ev_fld (ev_var rfl) hpN T.cl T.nk d_k) (ev_var rfl) (by rw [List.length_map]; exact hks) fun r H2 hr2 e2 h2 => ?_
      · rw [cut_lo, cut_hi, List.length_take, List.length_drop, List.length_map, List.length_map]
        omega
      · rw [cut_lo, cut_hi, List.map_append, List.map_take, List.map_drop]
      · have aN : ∀ a, H a ≠ none → HN a ≠ none := fun a h z => al a h (fresh_back eN z)
        have rk : r ≠ ka := fun e => aN ka ak (by rw [← e]; exact hr2)
        have hr0 : H r = none := Classical.byContradiction fun h => aN r h hr2
        have cN : aftN d.kept d.ws (fun j => cs.getD j 0) (i + 1) = fset (aftN d.kept d.ws (fun j => cs.getD j 0) i) wv.1 (wv.2.take m ++ (aftN d.kept d.ws (fun j => cs.getD j 0) i wv.1).drop m) := by
          show stepA (aftN d.kept d.ws (fun j => cs.getD j 0) i) (d.ws.getD i (0, [])) (cs.getD i 0) = _
          rw [getD_in hwi, getD_in hm]
          rfl
        refine ⟨_, _, _, ks.set wv.1 r, rfl, (gN.trans e2).mut D.gk, fun a h z => ?_, fun a o h hn => ?_, by rw [upd_same, List.map_set], by rw [List.length_set, k2], fun j a ha => ?_⟩
        · by_cases e : a = ka
          · rw [e, upd_same] at z
            cases z
          · rw [upd_ne e] at z
            exact aN a h (fresh_back e2 z)
        · rw [upd_ne hn]
          exact e2 _ _ (eN _ _ (fr a o h hn))
        · rw [cN]
          unfold fset
          by_cases hj : j = wv.1
          · subst hj
            rw [List.getElem?_set_self hks] at ha
            cases ha
            rw [if_pos rfl, upd_ne rk]
            exact .inr ⟨hr0, h2⟩
          · rw [List.getElem?_set_ne (fun e => hj e.symm)] at ha
            rw [if_neg hj]
            refine (k3 j a ha).imp id fun h => ⟨h.1, ?_⟩
            rw [upd_ne (fun e => ak (by rw [← e]; exact h.1))]
            exact e2 _ _ (eN _ _ h.2)
    · rintro σ' H' ⟨y2, y3, y4, ks, rfl, g', al, fr, k1, k2, k3⟩
      have hp' := fr _ _ ho n1
      have eA : aftN d.kept d.ws (fun j => cs.getD j 0) (min (ts.map V.ref).length (cs.map nV).length) = aftN d.kept d.ws (fun j => cs.getD j 0) d.ws.length := by
        rw [List.length_map, List.length_map, w2]
        by_cases h : d.ws.length ≤ cs.length
        · rw [Nat.min_eq_left h]
        · rw [Nat.min_eq_right (by omega)]
          have := aft_stop (f := d.kept) (ws := d.ws) (c := fun j => cs.getD j 0) (i := cs.length) (fun j hj => by
            show cs.getD j 0 = 0
            rw [List.getD_eq_getElem?_getD, List.getElem?_eq_none hj]
            rfl) (d.ws.length - cs.length)
          rw [← this]
          congr 1
          omega
      rw [eA] at k3
      refine q_fldL (el_list (ev_fld (ev_var rfl) hp' T.cl T.nk d_k) (sq_of k1)) (ev_var rfl) hp' T.cl T.ns (by show 6 < 1000; decide) fun s2 H2 hs2 e2 h2 => ?_
      rw [d_ps]
      refine s_fldL (el_lst ea_nil (by simp)) (ev_var rfl) upd_same T.cl T.nw (by show 6 < 1000; decide) fun w4 H4 hw4 e4 h4 => ?_
      rw [d_pw]
      have a2 : ∀ a, H a ≠ none → H2 a ≠ none := fun a h z => al a h (fresh_back e2 z)
      have s2_0 : H s2 = none := Classical.byContradiction fun h => al s2 h hs2
      have pS : p ≠ s2 := fun e => ap (by rw [e]; exact s2_0)
      have kS : ka ≠ s2 := fun e => ak (by rw [e]; exact s2_0)
      have w4_2 : H2 w4 = none := by
        by_cases e : w4 = p
        · rw [e, upd_same] at hw4
          cases hw4
        · rw [upd_ne e] at hw4
          exact hw4
      have w4_0 : H w4 = none := Classical.byContradiction fun h => a2 w4 h w4_2
      have pW : p ≠ w4 := fun e => ap (by rw [e]; exact w4_0)
      have kW : ka ≠ w4 := fun e => ak (by rw [e]; exact w4_0)
      have sW : s2 ≠ w4 := fun e => by
        rw [← e, h2] at w4_2
        cases w4_2
      have fX : ∀ a o, H2 a = some o → a ≠ p → (upd H4 p (.ins C dx (dfl n ka s2 w4 d.pw d.bf))) a = some o := fun a o h hn => by
        rw [upd_ne hn]
        exact e4 _ _ (by rw [upd_ne hn]; exact h)
      have aX : ∀ a, H2 a ≠ none → (upd H4 p (.ins C dx (dfl n ka s2 w4 d.pw d.bf))) a ≠ none := fun a h z => by
        by_cases e : a = p
        · rw [e, upd_same] at z
          cases z
        · rw [upd_ne e] at z
          have z2 := fresh_back e4 z
          rw [upd_ne e] at z2
          exact h z2
      have wX : (upd H4 p (.ins C dx (dfl n ka s2 w4 d.pw d.bf))) w4 = some (.lst []) := by
        rw [upd_ne pW.symm]
        exact h4
      have pX : (upd H4 p (.ins C dx (dfl n ka s2 w4 d.pw d.bf))) p = some (.ins C dx (dfl n ka s2 w4 d.pw d.bf)) := upd_same
      have gX : Ex G (upd H4 p (.ins C dx (dfl n ka s2 w4 d.pw d.bf))) := (((g'.trans e2).mut D.gp).trans e4).mut D.gp
      generalize upd H4 p (.ins C dx (dfl n ka s2 w4 d.pw d.bf)) = HX at *
      have row : ∀ (j : Nat) (a : Addr), ks[j]? = some a → grow G H HX (fun a => a = s2 ∨ a = w4) a = some (.lst ((aftN d.kept d.ws (fun j => cs.getD j 0) d.ws.length j).map V.int)) := fun j a ha => by
        rcases k3 j a ha with h | h
        · exact grow_ex _ _ h
        · have ap' : a ≠ p := fun e => ap (by rw [← e]; exact h.1)
          have as' : a ≠ s2 := fun e => by
            rw [← e, h.2] at hs2
            cases hs2
          have aw' : a ≠ w4 := fun e => by
            have := e2 _ _ h.2
            rw [e, w4_2] at this
            cases this
          exact grow_new (fresh_back D.g h.1) h.1 (fun z => z.elim as' aw') (fX _ _ (e2 _ _ h.2) ap')
      refine q (grow G H HX fun a => a = s2 ∨ a = w4) HX s2 w4 ⟨grow_ex, fun a h g => grow_no h g, fun a h => aX a (a2 a h)⟩ (fun a o h hp hk => fX a o (e2 _ _ (fr a o h hk)) hp)
        ⟨grow_sub gX, grow_no ap D.gp, grow_no ak D.gk, grow_X (.inl rfl) (fresh_back D.g s2_0), grow_X (.inr rfl) (fresh_back D.g w4_0), kS, kW, sW, ⟨dx, pX⟩, ⟨ks, fX _ _ (e2 _ _ k1) n1.symm, k2, row⟩, ⟨ks, fX _ _ h2 pS.symm, k2, row⟩, ⟨[], wX, rfl, fun i t w' ht => by simp at ht⟩, D.n0, D.n1, Nat.zero_le _, fun w' hw' => absurd hw' List.not_mem_nil, aft_len D.kz (fun w hw => (D.ok w hw).2) _ (Nat.le_refl _)⟩
end

end ND

set_option Elab.async false
set_option linter.all false
set_option maxRecDepth 100000
set_option maxHeartbeats 4000000
namespace ND
open PySem PySem.Spec PyProof.Rows L2 Evl LK LT LG LS LQ LX LO LN LP
theorem nV_ints (cs : List Nat) : cs.map nV = (cs.map fun k : Nat => (k : Int)).map V.int := by
  rw [List.map_map]
  rfl
theorem wc_nats : ∀ {xs : List V}, xs.all wc = true → ∃ cs : List Nat, xs = cs.map nV ∧ ∀ k ∈ cs, k ≤ 8
  | [], _ => ⟨[], rfl, fun z hz => absurd hz List.not_mem_nil⟩
  | x :: r, h => by
    rw [List.all_cons, Bool.and_eq_true] at h
    obtain ⟨ns, e, hn⟩ := wc_nats h.2
    cases x with
    | int i =>
      have h0 : (decide (0 ≤ i) && decide (i ≤ 8)) = true := h.1
      have h1 : 0 ≤ i ∧ i ≤ 8 := by simpa using h0
      obtain ⟨k, rfl⟩ := Int.eq_ofNat_of_zero_le h1.1
      exact ⟨k :: ns, by rw [e]; rfl, fun z hz => by
        rcases List.mem_cons.mp hz with rfl | h
        · omega
        · exact hn z h⟩
    | _ => cases h.1
theorem nats_wc {cs : List Nat} (h : ∀ k ∈ cs, k ≤ 8) : (cs.map nV).all wc = true := by
  rw [List.all_eq_true]
  intro x hx
  obtain ⟨z, hz, rfl⟩ := List.mem_map.mp hx
  have := h z hz
  show (decide ((0 : Int) ≤ (z : Int)) && decide ((z : Int) ≤ 8)) = true
  rw [decide_eq_true (by omega), decide_eq_true (by omega)]
  rfl
theorem nV_inj : ∀ {cs ds : List Nat}, cs.map nV = ds.map nV → cs = ds
  | [], [], _ => rfl
  | [], d :: s, h => by simp at h
  | c :: r, [], h => by simp at h
  | c :: r, d :: s, h => by
    rw [List.map_cons, List.map_cons] at h
    injection h with h1 h2
    have h3 : (c : Int) = (d : Int) := V.int.inj h1
    rw [nV_inj h2]
    congr 1
    omega
section
variable {P : Program} {w : World} {K : PySem.W.Frag} {mg : Str → Option Value} {base : Heap} {C CN CO : Addr}
theorem ok_flush {f fB fS : Addr} {fd fdB fdS : FuncData} (F : Fun K "flush" "Disk.flush" sFlush f fd) (Gbegin_operation : FnOk P w K mg base (L2.CX P w) 1 fB fdB ["self"] (spBeg C CO)) (bbegin_operation : Binds K fdB ["self"] []) (mbegin_operation : Meth K C "_begin_operation" fB) (Gsettle_writes : FnOk P w K mg base CX0 1 fS fdS ["self", "choices"] (spSet C)) (bsettle_writes : Binds K fdS ["self", "choices"] []) (msettle_writes : Meth K C "_settle_writes" fS) (T : Txt mg K C) : FnOk P w K mg base (L2.CX P w) 2 f fd ["self"] (spFlush C CO) := by
  obtain ⟨_, gSECTOR_WORDS⟩ := T.gSECTOR_WORDS
  refine F.okX scFlush (fun vs H Q E h => ?_) (fun cdv A outer s H vs Q E hr h => ?_)
  · obtain ⟨G, p, ka, sa, wa, n, d, rfl, _⟩ := h
    rfl
  · obtain ⟨G, p, ka, sa, wa, n, d, rfl, D, q, qO⟩ := h
    obtain ⟨dx, ho⟩ := D.o
    refine ⟨_, (pss_cons (ps_expr (pe_meth0 (pv 0) T.cl mbegin_operation Gbegin_operation (hr.mono (by decide)) bbegin_operation .nil (pass_own (takes_of rfl rfl rfl rfl))))
      (pss_one (ps_expr (pe_meth (pv 0) T.cl msettle_writes Gsettle_writes (hr.mono (by decide)) bsettle_writes .nil pass0 (pa_cons (pe_op op_rep (pe_lst (pa_cons (pe_glob (v := .int 8) rfl gSECTOR_WORDS ⟨_, rfl⟩) pa_nil)) (pe_callB call_len_seq (by rfl) T.len (by decide +kernel) (pa_cons (pe_fld (pv 0) rfl) pa_nil))) pa_nil))))), ?_⟩
    refine q_m (ev_var rfl) ho (d_no ⟨by decide +kernel, by decide +kernel, by decide +kernel, by decide +kernel, by decide +kernel, by decide +kernel⟩) ea_nil fun H2 e2 => ⟨G, p, ka, sa, wa, n, d, rfl, D.ex e2, fun hon H3 al fr D3 => ?_, fun hno H3 al fr D3 => qO hno H3 ⟨Ex.refl _, fun _ _ g => g, fun a h z => al a (fun z => h (fresh_back e2 z)) z⟩ (fun a o h hp => fr a o (e2 _ _ h) hp) D3⟩
    have al3 : ∀ a, H a ≠ none → H3 a ≠ none := fun a h => al a (fun z => h (fresh_back e2 z))
    obtain ⟨dx3, ho3⟩ := D3.o
    obtain ⟨ts, w1, w2, w3⟩ := D3.w
    have hwl : d.ws.length ≤ 300 := D.wl
    have w2' : ts.length = d.ws.length := w2
    refine mR_run (ev_var rfl) ho3 (d_no ⟨by decide +kernel, by decide +kernel, by decide +kernel, by decide +kernel, by decide +kernel, by decide +kernel⟩) (el_rep1 (el_lst (ea_cons ev_c ea_nil) (by simp)) (ev_len (ev_fld (ev_var rfl) ho3 T.cl T.nw d_w) (sq_of w1)) (by omega) (by rw [List.length_map]; omega)) fun c H5 hc e5 h5 => ?_
    have D5 := D3.ex e5
    have hck : c ≠ ka := fun e => D3.al.2.1 (by rw [← e]; exact hc)
    refine ⟨G, p, ka, sa, wa, n, _, c, List.replicate d.ws.length 8, rfl, D5, ?_, hck, fun G' H6 sa' wa' S6 fr6 D6 => ?_⟩
    · rw [h5, List.length_map, w2', List.map_replicate]
      rfl
    · have ec : aftN d.kept d.ws (fun j => (List.replicate d.ws.length 8).getD j 0) d.ws.length = aftN d.kept d.ws (fun _ => 8) d.ws.length := aft_cong fun j hj => by
        rw [List.getD_eq_getElem?_getD, List.getElem?_replicate, if_pos hj]
        rfl
      have D7 : DK C G' H6 p ka sa' wa' n { kept := aftN d.kept d.ws (fun _ => 8) d.ws.length, ws := [], pw := d.pw, bf := d.bf.map (· - 1) } := by
        rw [← ec]
        exact D6
      exact q hon G' H6 sa' wa' ⟨S6.g, fun a h g => S6.n a (fun z => al3 a h (fresh_back e5 z)) g, fun a h => S6.a a (fun z => al3 a h (fresh_back e5 z))⟩ (fun a o h hp hk => fr6 a o (e5 _ _ (fr a o (e2 _ _ h) hp)) hp hk) D7
theorem ok_wait {f : Addr} {fd : FuncData} (F : Fun K "waiting" "Disk.waiting" sWait f fd) (T : Txt mg K C) : FnOk P w K mg base CX0 1 f fd ["self"] (spWait C) := by
  refine F.ok scWait (fun vs H Q E h => ?_) (fun cdv A outer s H vs Q E hr h => ?_)
  · obtain ⟨G, p, ka, sa, wa, n, d, rfl, _⟩ := h
    rfl
  · obtain ⟨G, p, ka, sa, wa, n, d, rfl, D, q⟩ := h
    obtain ⟨dx, ho⟩ := D.o
    obtain ⟨ts, w1, w2, w3⟩ := D.w
    have hwl := D.wl
    refine ⟨_, (pss_one (ps_ret (pe_lc (own := [("sector", 1), ("words", 2)]) (g := gTup K 2 (gCons (gName 1) (gCons (gName 2) gNil))) (tt := tYes) rfl scWait.nd (pi_list (pe_fld (pv 0) rfl)) (blkOk_by (own := [("sector", 1), ("words", 2)]) (N := ["self", "sector", "words"]) (sc := defScope sWait) (by decide +kernel)) (fun _ _ _ _ _ => pg_tup rfl (pgs_cons (pg_name (i := 1) scWait.nd rfl (Or.inl rfl)) (pgs_cons (pg_name (i := 2) scWait.nd rfl (Or.inl rfl)) pgs_nil))) (fun _ _ _ _ _ => pts_nil) (fun _ _ _ _ _ => (pe_tup (pa_cons (pv 1) (pa_cons (pe_callTy (r := rListS K) call_list_of (by rfl) T.list (by decide +kernel) (pa_cons (pv 2) pa_nil)) pa_nil))))))), ?_⟩
    refine er_ret (R := Rw H d.ws) (er_L2 (ev_fld (ev_var rfl) ho T.cl T.nw d_w) (sq_of w1) (by rw [List.length_map]; omega) (fun _ _ => rfl) (rw_mon _ _) (fun i x Dd H1 hD e1 hDn hx => ?_)) fun L ys H1 hL e1 h1 hn hr => q L ys H1 hL e1 h1 (by rw [hn, List.length_map, w2]) hr
    rw [List.getElem?_map] at hx
    obtain ⟨t, ht, rfl⟩ := Option.map_eq_some_iff.mp hx
    have hi : i < d.ws.length := by rw [← w2]; exact (List.getElem?_eq_some_iff.mp ht).1
    have hwi := List.getElem?_eq_getElem hi
    generalize d.ws[i] = wv at hwi
    obtain ⟨l, g1, g2⟩ := w3 i t wv ht hwi
    have gH := D.g.trans e1
    refine ⟨t, _, _, rfl, st_of (gH _ _ g1), fun xs hxs hpre Q' q' => ?_⟩
    refine ⟨.int (wv.1 : Int), rfl, el_list (K := K) (ev_var rfl) (sq_of (gH _ _ g2)) H1 (Ex.refl _) _ fun l2 H2 hl2 e2 h2 => ⟨by show 2 ≤ sizeLine; decide, fun t2 ht2 => ?_⟩⟩
    have eT := Ex.new (o := .tup [.int (wv.1 : Int), .ref l2]) ht2
    have b1 : but Dd (upd H2 t2 (.tup [.int (wv.1 : Int), .ref l2])) t2 = some (.tup [.int (wv.1 : Int), .ref l2]) := but_new hDn (fresh_back e2 ht2) upd_same
    have b2 : but Dd (upd H2 t2 (.tup [.int (wv.1 : Int), .ref l2])) l2 = some (.lst (wv.2.map V.int)) := but_new hDn hl2 (eT _ _ h2)
    refine q' (.ref t2) _ (e2.trans eT) ⟨t2, l2, wv, rfl, hwi, fresh_back (e1.trans e2) ht2, fresh_back e1 hl2, b1, b2, fun t' ht' => ?_⟩
    obtain ⟨j, hj⟩ := List.mem_iff_getElem?.mp ht'
    obtain ⟨t3, l3, w3', e3, _, _, _, h5, h6, _⟩ := hpre j _ hj
    cases e3
    exact ⟨_, l3, ex_but (e2.trans eT) _ _ h5, fun e => by
      have := but_ex _ _ h6
      rw [e, hl2] at this
      cases this⟩
theorem ok_img {f : Addr} {fd : FuncData} (F : Fun K "image" "Disk.image" sImg f fd) (T : Txt mg K C) : FnOk P w K mg base CX0 1 f fd ["self"] (spImgs C fun d => due d.kept d.ws) := by
  refine F.ok scImg (fun vs H Q E h => ?_) (fun cdv A outer s H vs Q E hr h => ?_)
  · obtain ⟨G, p, ka, sa, wa, n, d, rfl, _⟩ := h
    rfl
  · obtain ⟨G, p, ka, sa, wa, n, d, rfl, D, q⟩ := h
    obtain ⟨dx, ho⟩ := D.o
    obtain ⟨ks, w1, w2, w3⟩ := D.s
    have hn1 := D.n1
    refine ⟨_, (pss_one (ps_ret (pe_lc (own := [("words", 1)]) (g := gName 1) (tt := tYes) rfl scImg.nd (pi_list (pe_fld (pv 0) rfl)) (blkOk_by (own := [("words", 1)]) (N := ["self", "words"]) (sc := defScope sImg) (by decide +kernel)) (fun _ _ _ _ _ => pg_name (i := 1) scImg.nd rfl (Or.inl rfl)) (fun _ _ _ _ _ => pts_nil) (fun _ _ _ _ _ => (pe_callTy (r := rListS K) call_list_of (by rfl) T.list (by decide +kernel) (pa_cons (pv 1) pa_nil)))))), ?_⟩
    refine er_ret (R := Rl H (due d.kept d.ws)) (er_L (ev_fld (ev_var rfl) ho T.cl T.ns d_s) (sq_of w1) (by rw [List.length_map]; omega) (fun _ => rfl) (rl_mon _ _) (fun i x Dd H1 hD e1 hDn hx xs hxs hpre Q' q' => ?_)) fun L ys H1 hL e1 h1 hn hr => q L ys H1 hL e1 h1 (by rw [hn, List.length_map, w2]) hr
    rw [List.getElem?_map] at hx
    obtain ⟨t, ht, rfl⟩ := Option.map_eq_some_iff.mp hx
    have gH := D.g.trans e1
    refine el_list (K := K) (ev_var rfl) (sq_of (gH _ _ (w3 i t ht))) H1 (Ex.refl _) _ fun l2 H2 hl2 e2 h2 => q' (.ref l2) H2 e2 ⟨l2, rfl, fresh_back e1 hl2, but_new hDn hl2 h2, fun l' hl' e => ?_⟩
    obtain ⟨j, hj⟩ := List.mem_iff_getElem?.mp hl'
    obtain ⟨l3, e3, _, h6, _⟩ := hpre j _ hj
    cases e3
    have := but_ex _ _ h6
    rw [e, hl2] at this
    cases this
def Rz (H0 : Hp) : Rel := fun _ _ y H => ∃ l, y = .ref l ∧ H0 l = none ∧ H l = some (.lst (Z8.map V.int))
theorem rz_mon (H0 : Hp) : Mon (Rz H0) := fun i prev y H H' e ⟨l, h1, h2, h3⟩ => ⟨l, h1, h2, e _ _ h3⟩
theorem ok_init {f fS : Addr} {fd fdS : FuncData} (F : Fun K "__init__" "Disk.__init__" sInit f fd) (FSz : Fun K "is_size" "is_size" sSize fS fdS) (GSz : FnOk P w K mg base CX0 2 fS fdS ["blocks"] spSize) (bSz : Binds K fdS ["blocks"] []) (gSz : mg "is_size" = some (.ref fS)) (T : Txt mg K C) (XN : Xc K mg "NotValid" CN) : FnOk P w K mg base (L2.CX P w) 3 f fd ["self", "blocks"] (spInit C) := by
  obtain ⟨_, gSECTOR_WORDS⟩ := T.gSECTOR_WORDS
  obtain ⟨_, gBLOCK_SECTORS⟩ := T.gBLOCK_SECTORS
  refine F.okX scInit (fun vs H Q E h => ?_) (fun cdv A outer s H vs Q E hr h => ?_)
  · obtain ⟨G, p, dx, n, rfl, _⟩ := h
    rfl
  · obtain ⟨G, p, dx, n, rfl, g0, gp, ho, h0, h1, q⟩ := h
    refine ⟨_, (pss_cons (ps_if (pt_not (pt_val (pe_call GSz (hr.mono (by decide)) (by rfl) gSz FSz.kp bSz .nil pass0 (pa_cons (pv 1) pa_nil)))) (pss_one (ps_raise0 rfl XN (takes_of rfl rfl rfl rfl) (by rfl))) pss_nil)
      (pss_cons (ps_fld (pv 0) (pv 1) rfl)
      (pss_cons (ps_fld (pv 0) (pe_lc (own := [("_", 2)]) (g := gName 2) (tt := tYes) rfl scInit.nd (pi_range1 (by rfl) T.range (pa_cons (pe_op op_mul (pe_glob (v := .int 4) rfl gBLOCK_SECTORS ⟨_, rfl⟩) (pv 1)) pa_nil)) (blkOk_by (own := [("_", 2)]) (N := ["self", "blocks", "_"]) (sc := defScope sInit) (by decide +kernel)) (fun _ _ _ _ _ => pg_name (i := 2) scInit.nd rfl (Or.inl rfl)) (fun _ _ _ _ _ => pts_nil) (fun _ _ _ _ _ => (pe_op op_rep (pe_lst (pa_cons pe_int pa_nil)) (pe_glob (v := .int 8) rfl gSECTOR_WORDS ⟨_, rfl⟩)))) rfl)
      (pss_cons (ps_fld (pv 0) (pe_callTy call_list_of (by rfl) T.list (by decide +kernel) (pa_cons (pe_fld (pv 0) rfl) pa_nil)) rfl)
      (pss_cons (ps_fld (pv 0) (pe_lst pa_nil) rfl)
      (pss_cons (ps_fld (pv 0) pe_bl rfl)
      (pss_one (ps_fld (pv 0) pe_non rfl)))))))), ?_⟩
    refine q_when (b := false) (et_is (et_not (et_B (ev_call (vs := [.int (n : Int)]) (ea_cons (ev_var rfl) ea_nil) (fun H1 e1 Q' q' E' => ⟨(n : Int), rfl, q'⟩)))) (by
      rw [decide_eq_true (by omega), decide_eq_true (by omega), decide_eq_true (by omega)]
      rfl)) (fun h => by cases h) (fun _ H1 e1 => ?_)
    refine q_fld (ev_var rfl) (ev_var rfl) (e1 _ _ ho) T.cl T.nb (by show 0 < 1000; decide) fun H2 e2 => ?_
    have aP : ∀ {H' H'' : Hp} {o : HO}, (∀ a, H a ≠ none → H' a ≠ none) → Ex H' H'' → ∀ a, H a ≠ none → (upd H'' p o) a ≠ none := fun h e a ha z => by
      by_cases ep : a = p
      · rw [ep, upd_same] at z
        cases z
      · rw [upd_ne ep] at z
        exact h a ha (fresh_back e z)
    have fP : ∀ {H' H'' : Hp} {o : HO}, (∀ a u, H a = some u → a ≠ p → H' a = some u) → Ex H' H'' → ∀ a u, H a = some u → a ≠ p → (upd H'' p o) a = some u := fun h e a u ha hn => by
      rw [upd_ne hn]
      exact e _ _ (h a u ha hn)
    have a2 := aP (o := .ins C dx (putF "blocks" (.int (n : Int)) [])) (fun a ha => ha) (e1.trans e2)
    have f2 := fP (o := .ins C dx (putF "blocks" (.int (n : Int)) [])) (fun a u ha _ => ha) (e1.trans e2)
    have g2 : Ex G (upd H2 p (.ins C dx (putF "blocks" (.int (n : Int)) []))) := ((g0.trans e1).trans e2).mut gp
    have p2 : (upd H2 p (.ins C dx (putF "blocks" (.int (n : Int)) []))) p = some (.ins C dx [(("blocks" : Str), .int (n : Int))]) := upd_same
    generalize upd H2 p (.ins C dx (putF "blocks" (.int (n : Int)) [])) = H3 at *
    refine q_fldR (n := (4 * (n : Int)).toNat) (R := Rz H3) (er_R1 (ea_cons (ev_op ev_c (ev_var rfl) (rv_I (.inl ⟨by decide, by decide⟩))) ea_nil) ⟨by omega, by omega⟩ (fun _ => rfl) (rz_mon _) (fun i Dd H4 hD e4 hDn hi xs hxs hpre Q' q' => ?_)) (ev_var rfl) p2 T.cl T.nk (by show 1 < 1000; decide) fun ka xs H4 H5 hk4 e4 e5 h5 hxl hrow => ?_
    · exact el_rep1 (el_lst (ea_cons ev_c ea_nil) (by simp)) ev_c (by decide) (by decide) H4 (Ex.refl _) _ fun l H5 hl e5 h5 => q' (.ref l) H5 e5 ⟨l, rfl, fresh_back e4 hl, but_new hDn hl h5⟩
    have hkp : ka ≠ p := fun e => by rw [e, p2] at hk4; cases hk4
    have e45 := e4.trans e5
    have a4 := aP (o := .ins C dx (putF "_kept" (.ref ka) [(("blocks" : Str), .int (n : Int))])) a2 e45
    have f4 := fP (o := .ins C dx (putF "_kept" (.ref ka) [(("blocks" : Str), .int (n : Int))])) f2 e45
    have g4 : Ex G (upd H5 p (.ins C dx (putF "_kept" (.ref ka) [(("blocks" : Str), .int (n : Int))]))) := (g2.trans e45).mut gp
    have p4 : (upd H5 p (.ins C dx (putF "_kept" (.ref ka) [(("blocks" : Str), .int (n : Int))]))) p = some (.ins C dx [(("blocks" : Str), .int (n : Int)), (("_kept" : Str), .ref ka)]) := upd_same
    have k4 : (upd H5 p (.ins C dx (putF "_kept" (.ref ka) [(("blocks" : Str), .int (n : Int))]))) ka = some (.lst xs) := by rw [upd_ne hkp]; exact h5
    have r4 : ∀ (i : Nat) (y : V), xs[i]? = some y → ∃ l, y = V.ref l ∧ H3 l = none ∧ (upd H5 p (.ins C dx (putF "_kept" (.ref ka) [(("blocks" : Str), .int (n : Int))]))) l = some (.lst (Z8.map V.int)) := fun i y hy => by
      obtain ⟨l, h1, h2, h3⟩ := hrow i y hy
      refine ⟨l, h1, h2, ?_⟩
      rw [upd_ne (fun e => by rw [e, p2] at h2; cases h2)]
      exact e5 _ _ h3
    generalize upd H5 p (.ins C dx (putF "_kept" (.ref ka) [(("blocks" : Str), .int (n : Int))])) = H6 at *
    refine q_fldL (el_list (ev_fld (ev_var rfl) p4 T.cl T.nk rfl) (sq_of k4)) (ev_var rfl) p4 T.cl T.ns (by show 2 < 1000; decide) fun sa H7 hs7 e7 h7 => ?_
    have hsp : sa ≠ p := fun e => by rw [e, p4] at hs7; cases hs7
    have hsk : ka ≠ sa := ne_of_none k4 hs7
    have a7 := aP (o := .ins C dx (putF "_shown" (.ref sa) [(("blocks" : Str), .int (n : Int)), (("_kept" : Str), .ref ka)])) a4 e7
    have f7 := fP (o := .ins C dx (putF "_shown" (.ref sa) [(("blocks" : Str), .int (n : Int)), (("_kept" : Str), .ref ka)])) f4 e7
    have g7 : Ex G (upd H7 p (.ins C dx (putF "_shown" (.ref sa) [(("blocks" : Str), .int (n : Int)), (("_kept" : Str), .ref ka)]))) := (g4.trans e7).mut gp
    have p7 : (upd H7 p (.ins C dx (putF "_shown" (.ref sa) [(("blocks" : Str), .int (n : Int)), (("_kept" : Str), .ref ka)]))) p = some (.ins C dx [(("blocks" : Str), .int (n : Int)), (("_kept" : Str), .ref ka), (("_shown" : Str), .ref sa)]) := upd_same
    have x7 : ∀ a o, H6 a = some o → a ≠ p → (upd H7 p (.ins C dx (putF "_shown" (.ref sa) [(("blocks" : Str), .int (n : Int)), (("_kept" : Str), .ref ka)]))) a = some o := fun a o h hn => by rw [upd_ne hn]; exact e7 _ _ h
    have s7 : (upd H7 p (.ins C dx (putF "_shown" (.ref sa) [(("blocks" : Str), .int (n : Int)), (("_kept" : Str), .ref ka)]))) sa = some (.lst xs) := by rw [upd_ne hsp]; exact h7
    generalize upd H7 p (.ins C dx (putF "_shown" (.ref sa) [(("blocks" : Str), .int (n : Int)), (("_kept" : Str), .ref ka)])) = H8 at *
    refine q_fldL (el_lst ea_nil (by simp)) (ev_var rfl) p7 T.cl T.nw (by show 3 < 1000; decide) fun wa H9 hw9 e9 h9 => ?_
    have hwp : wa ≠ p := fun e => by rw [e, p7] at hw9; cases hw9
    have hws : sa ≠ wa := ne_of_none s7 hw9
    have hwk : ka ≠ wa := ne_of_none (x7 _ _ k4 hkp) hw9
    have a9 := aP (o := .ins C dx (putF "_writes" (.ref wa) [(("blocks" : Str), .int (n : Int)), (("_kept" : Str), .ref ka), (("_shown" : Str), .ref sa)])) a7 e9
    have f9 := fP (o := .ins C dx (putF "_writes" (.ref wa) [(("blocks" : Str), .int (n : Int)), (("_kept" : Str), .ref ka), (("_shown" : Str), .ref sa)])) f7 e9
    have g9 : Ex G (upd H9 p (.ins C dx (putF "_writes" (.ref wa) [(("blocks" : Str), .int (n : Int)), (("_kept" : Str), .ref ka), (("_shown" : Str), .ref sa)]))) := (g7.trans e9).mut gp
    have p9 : (upd H9 p (.ins C dx (putF "_writes" (.ref wa) [(("blocks" : Str), .int (n : Int)), (("_kept" : Str), .ref ka), (("_shown" : Str), .ref sa)]))) p = some (.ins C dx [(("blocks" : Str), .int (n : Int)), (("_kept" : Str), .ref ka), (("_shown" : Str), .ref sa), (("_writes" : Str), .ref wa)]) := upd_same
    have x9 : ∀ a o, H8 a = some o → a ≠ p → (upd H9 p (.ins C dx (putF "_writes" (.ref wa) [(("blocks" : Str), .int (n : Int)), (("_kept" : Str), .ref ka), (("_shown" : Str), .ref sa)]))) a = some o := fun a o h hn => by rw [upd_ne hn]; exact e9 _ _ h
    have w9 : (upd H9 p (.ins C dx (putF "_writes" (.ref wa) [(("blocks" : Str), .int (n : Int)), (("_kept" : Str), .ref ka), (("_shown" : Str), .ref sa)]))) wa = some (.lst []) := by rw [upd_ne hwp]; exact h9
    generalize upd H9 p (.ins C dx (putF "_writes" (.ref wa) [(("blocks" : Str), .int (n : Int)), (("_kept" : Str), .ref ka), (("_shown" : Str), .ref sa)])) = H10 at *
    refine q_fld ev_c (ev_var rfl) p9 T.cl T.np (by show 4 < 1000; decide) fun H11 e11 => ?_
    refine s_fld ev_c (ev_var rfl) upd_same T.cl T.nf (by show 5 < 1000; decide) fun H12 e12 => ?_
    show Q .non (upd H12 p (.ins C dx (dfl n ka sa wa true none)))
    have x12 : ∀ a o, H10 a = some o → a ≠ p → (upd H12 p (.ins C dx (dfl n ka sa wa true none))) a = some o := fun a o h hn => by
      rw [upd_ne hn]
      exact e12 _ _ (by rw [upd_ne hn]; exact e11 _ _ h)
    have a12 := aP (o := .ins C dx (dfl n ka sa wa true none)) (aP (o := .ins C dx (putF "_powered" (V.bl true) [(("blocks" : Str), .int (n : Int)), (("_kept" : Str), .ref ka), (("_shown" : Str), .ref sa), (("_writes" : Str), .ref wa)])) a9 e11) e12
    have g12 : Ex G (upd H12 p (.ins C dx (dfl n ka sa wa true none))) := (((g9.trans e11).mut gp).trans e12).mut gp
    have p12 : (upd H12 p (.ins C dx (dfl n ka sa wa true none))) p = some (.ins C dx (dfl n ka sa wa true none)) := upd_same
    generalize upd H12 p (.ins C dx (dfl n ka sa wa true none)) = HX at *
    have k0 : H ka = none := Classical.byContradiction fun h => a2 ka h hk4
    have s0 : H sa = none := Classical.byContradiction fun h => a4 sa h hs7
    have w0 : H wa = none := Classical.byContradiction fun h => a7 wa h hw9
    have toX : ∀ a o, H6 a = some o → a ≠ p → HX a = some o := fun a o h hn => x12 _ _ (x9 _ _ (x7 _ _ h hn) hn) hn
    obtain ⟨ks, hks⟩ : ∃ ks : List Addr, xs = ks.map V.ref := by
      refine refs_of fun y hy => ?_
      obtain ⟨i, hi⟩ := List.mem_iff_getElem?.mp hy
      obtain ⟨l, h, _⟩ := r4 i y hi
      exact ⟨l, h⟩
    have hkl : ks.length = 4 * n := by
      have := hxl
      rw [hks, List.length_map] at this
      omega
    have row : ∀ (j : Nat) (a : Addr), ks[j]? = some a → grow G H HX (fun a => a = ka ∨ a = sa ∨ a = wa) a = some (.lst (Z8.map V.int)) := fun j a ha => by
      obtain ⟨l, e, hl3, hl6⟩ := r4 j (.ref a) (by rw [hks, List.getElem?_map, ha]; rfl)
      cases e
      have hap : a ≠ p := fun e => by rw [e, p2] at hl3; cases hl3
      have ha0 : H a = none := Classical.byContradiction fun h => a2 a h hl3
      refine grow_new (fresh_back g0 ha0) ha0 ?_ (toX a _ hl6 hap)
      rintro (e | e | e)
      · rw [e, k4, hks] at hl6
        cases ks with
        | nil => simp at ha
        | cons c r => simp [Z8] at hl6
      · rw [e, hs7] at hl6
        cases hl6
      · rw [e] at hl6
        have := x7 _ _ hl6 hwp
        rw [hw9] at this
        cases this
    have ap : H p ≠ none := by rw [ho]; exact fun z => by cases z
    refine q (grow G H HX fun a => a = ka ∨ a = sa ∨ a = wa) ka sa wa HX ⟨grow_ex, fun a h g => grow_no h g, a12⟩ (fun a o h hp => x12 _ _ (f9 a o h hp) hp)
      ⟨grow_sub g12, grow_no ap gp, grow_X (.inl rfl) (fresh_back g0 k0), grow_X (.inr (.inl rfl)) (fresh_back g0 s0), grow_X (.inr (.inr rfl)) (fresh_back g0 w0), hsk, hwk, hws, ⟨dx, p12⟩, ⟨ks, by rw [← hks]; exact toX _ _ k4 hkp, hkl, row⟩, ⟨ks, by rw [← hks]; exact x12 _ _ (x9 _ _ s7 hsp) hsp, hkl, row⟩, ⟨[], x12 _ _ w9 hwp, rfl, fun i t w' ht => by simp at ht⟩, h0, h1, Nat.zero_le _, fun w' hw' => absurd hw' List.not_mem_nil, fun _ => rfl⟩
end

end ND

set_option Elab.async false
set_option linter.all false
set_option maxRecDepth 100000
set_option maxHeartbeats 4000000
namespace NS
open PySem PySem.Spec PyProof.Rows L2 Evl LK LT LG LS LQ LX LO
def top (i : Nat) : Stmt := PySem.Challenge.pw_laminae_k59_commit_steps.main.body.getD i (.Pass ⟨0, 0, 0, 0⟩)
abbrev sIw : Stmt := top 7
theorem scIw : FnScope ["value"] ["value"] (defScope sIw) := ⟨rfl, rfl, rfl, by decide +kernel, rfl, by decide +kernel, by decide +kernel⟩
abbrev sInit : Stmt := inClass (top 36) 0
theorem scInit : FnScope ["self", "uses", "count"] ["self", "uses"] (defScope sInit) := ⟨rfl, rfl, rfl, by decide +kernel, rfl, by decide +kernel, by decide +kernel⟩
abbrev sTake : Stmt := inClass (top 36) 1
theorem scTake : FnScope ["self", "reserve", "block"] ["self", "reserve"] (defScope sTake) := ⟨rfl, rfl, rfl, by decide +kernel, rfl, by decide +kernel, by decide +kernel⟩
abbrev sLeast : Stmt := inClass (top 36) 2
theorem scLeast : FnScope ["self", "block"] ["self"] (defScope sLeast) := ⟨rfl, rfl, rfl, by decide +kernel, rfl, by decide +kernel, by decide +kernel⟩
abbrev sShare : Stmt := inClass (top 36) 3
theorem scShare : FnScope ["self", "block"] ["self", "block"] (defScope sShare) := ⟨rfl, rfl, rfl, by decide +kernel, rfl, by decide +kernel, by decide +kernel⟩
abbrev sDrop : Stmt := inClass (top 36) 4
theorem scDrop : FnScope ["self", "block"] ["self", "block"] (defScope sDrop) := ⟨rfl, rfl, rfl, by decide +kernel, rfl, by decide +kernel, by decide +kernel⟩
abbrev sUses : Stmt := inClass (top 36) 5
theorem scUses : FnScope ["self", "block"] ["self", "block"] (defScope sUses) := ⟨rfl, rfl, rfl, by decide +kernel, rfl, by decide +kernel, by decide +kernel⟩
abbrev sNew : Stmt := inClass (top 36) 7
theorem scNew : FnScope ["self", "block"] ["self", "block"] (defScope sNew) := ⟨rfl, rfl, rfl, by decide +kernel, rfl, by decide +kernel, by decide +kernel⟩
abbrev sFree : Stmt := inClass (top 36) 8
theorem scFree : FnScope ["self", "block"] ["self", "block"] (defScope sFree) := ⟨rfl, rfl, rfl, by decide +kernel, rfl, by decide +kernel, by decide +kernel⟩
abbrev sFr : Stmt := inClass (top 36) 9
theorem scFr : FnScope ["self"] ["self"] (defScope sFr) := ⟨rfl, rfl, rfl, by decide +kernel, rfl, by decide +kernel, by decide +kernel⟩
abbrev sCu : Stmt := inClass (top 36) 14
theorem scCu : FnScope ["self", "held", "count", "now_held"] ["self", "held"] (defScope sCu) := ⟨rfl, rfl, rfl, by decide +kernel, rfl, by decide +kernel, by decide +kernel⟩
abbrev sCe : Stmt := inClass (top 36) 15
theorem scCe : FnScope ["self", "block"] ["self", "block"] (defScope sCe) := ⟨rfl, rfl, rfl, by decide +kernel, rfl, by decide +kernel, by decide +kernel⟩
abbrev sCk : Stmt := inClass (top 36) 16
theorem scCk : FnScope ["self", "block"] ["self", "block"] (defScope sCk) := ⟨rfl, rfl, rfl, by decide +kernel, rfl, by decide +kernel, by decide +kernel⟩
structure Txt (mg : Str → Option Value) (K : PySem.W.Frag) (C : Addr) : Prop where
  len : mg "len" = none
  range : mg "range" = none
  list : mg "list" = none
  isinstance : mg "isinstance" = none
  zip : mg "zip" = none
  int : mg "int" = none
  bool : mg "bool" = none
  gFIRST_BLOCK : ∃ t, mg "FIRST_BLOCK" = some (.int 5 t)
  cl : Cls K C
  nB : NoAttr K C "blocks"
  nC : NoAttr K C "_counts"
  nH : NoAttr K C "_held"
  mgC : mg "Space" = some (.ref C)
/-! ### a space: its fields, its lists -/
def flds (n : Int) (cl hl : Addr) : List (Str × V) := [(("blocks" : Str), .int n), (("_counts" : Str), .ref cl), (("_held" : Str), .ref hl)]
theorem fl_b (n : Int) (cl hl : Addr) : (flds n cl hl).lookup ("blocks" : Str) = some (V.int n) := rfl
theorem fl_c (n : Int) (cl hl : Addr) : (flds n cl hl).lookup ("_counts" : Str) = some (V.ref cl) := rfl
theorem fl_h (n : Int) (cl hl : Addr) : (flds n cl hl).lookup ("_held" : Str) = some (V.ref hl) := rfl
theorem fl_pc (n : Int) (cl hl cl' : Addr) : putF "_counts" (V.ref cl') (flds n cl hl) = flds n cl' hl := rfl
theorem fl_ph (n : Int) (cl hl hl' : Addr) : putF "_held" (V.ref hl') (flds n cl hl) = flds n cl hl' := rfl
theorem fl_0 (n : Int) : putF "blocks" (V.int n) [] = [(("blocks" : Str), V.int n)] := rfl
theorem fl_1 (n : Int) (cl : Addr) : putF "_counts" (V.ref cl) [(("blocks" : Str), V.int n)] = [(("blocks" : Str), V.int n), (("_counts" : Str), V.ref cl)] := rfl
theorem fl_2 (n : Int) (cl hl : Addr) : putF "_held" (V.ref hl) [(("blocks" : Str), V.int n), (("_counts" : Str), V.ref cl)] = flds n cl hl := rfl
theorem fl_no (n : Int) (cl hl : Addr) {m : Str} (h : m ≠ "blocks" ∧ m ≠ "_counts" ∧ m ≠ "_held") : (flds n cl hl).lookup m = Option.none := by
  unfold flds
  rw [List.lookup_cons, beq_false_of_ne h.1, List.lookup_cons, beq_false_of_ne h.2.1, List.lookup_cons, beq_false_of_ne h.2.2]
  rfl
structure Sp' (C : Addr) (H : Hp) (p cl hl : Addr) (cs : List Int) (hs : List Bool) : Prop where
  len : cs.length = hs.length
  le : cs.length ≤ 256
  o : ∃ dx, H p = some (.ins C dx (flds cs.length cl hl))
  c : H cl = some (.lst (cs.map V.int))
  h : H hl = some (.lst (hs.map V.bl))
theorem Sp'.ex {C : Addr} {H H' : Hp} {p cl hl : Addr} {cs : List Int} {hs : List Bool} (s : Sp' C H p cl hl cs hs) (e : Ex H H') : Sp' C H' p cl hl cs hs := ⟨s.len, s.le, let ⟨dx, h⟩ := s.o; ⟨dx, e _ _ h⟩, e _ _ s.c, e _ _ s.h⟩
def cv (cs : List Int) (k : Nat) : Int := cs.getD k 0
def hv (hs : List Bool) (k : Nat) : Bool := hs.getD k false
theorem cv_at {cs : List Int} {k : Nat} (hk : k < cs.length) : (cs.map V.int)[k]? = some (.int (cv cs k)) := cellv_in hk
theorem hv_at {hs : List Bool} {k : Nat} (hk : k < hs.length) : (hs.map V.bl)[k]? = some (.bl (hv hs k)) := by
  rw [List.getElem?_map, List.getElem?_eq_getElem hk]
  unfold hv
  rw [List.getD_eq_getElem?_getD, List.getElem?_eq_getElem hk]
  rfl
/-- is block k free | which are -/
def fr1 (cs : List Int) (hs : List Bool) (b : Bool) (k : Nat) : Bool := decide (V.int (cv cs k) = V.int 0) && decide (V.bl (hv hs k) = V.bl b)
def fr (cs : List Int) (hs : List Bool) (b : Bool) : List Nat := (List.range cs.length).filter (fr1 cs hs b)
theorem fr_lt {cs : List Int} {hs : List Bool} {b : Bool} {k : Nat} (h : k ∈ fr cs hs b) : k < cs.length := List.mem_range.mp (List.mem_filter.mp h).1
theorem fr_len (cs : List Int) (hs : List Bool) (b : Bool) : (fr cs hs b).length ≤ cs.length := by
  have := List.length_filter_le (fr1 cs hs b) (List.range cs.length)
  rw [List.length_range] at this
  exact this
def headV (l : List Nat) : V := match l with
  | [] => .non
  | k :: _ => .int (k : Int)
theorem head_some {cs : List Int} {hs : List Bool} {b : Bool} {i : Nat} (hi : i < cs.length) (h : fr1 cs hs b i = true) (hn : ∀ j, j < i → fr1 cs hs b j = false) : headV (fr cs hs b) = .int (i : Int) := by
  have e : (fr cs hs b).head? = some i := by
    unfold fr
    rw [List.head?_filter, List.find?_range_eq_some]
    exact ⟨h, List.mem_range.mpr hi, fun j hj => by rw [hn j hj]; rfl⟩
  cases hf : fr cs hs b with
  | nil => rw [hf] at e; cases e
  | cons x r => rw [hf] at e; cases e; rfl
theorem head_none {cs : List Int} {hs : List Bool} {b : Bool} (hn : ∀ j, j < cs.length → fr1 cs hs b j = false) : headV (fr cs hs b) = .non := by
  have e : fr cs hs b = [] := List.filter_eq_nil_iff.mpr fun j hj => by rw [hn j (List.mem_range.mp hj)]; decide
  rw [e]
  rfl
theorem head_of {cs : List Int} {hs : List Bool} {b : Bool} (h : 0 < (fr cs hs b).length) : ∃ k, headV (fr cs hs b) = .int ((k : Nat) : Int) ∧ k < cs.length ∧ (fr cs hs b)[0]? = some k := by
  cases hf : fr cs hs b with
  | nil => rw [hf] at h; cases h
  | cons x r =>
    have : x ∈ fr cs hs b := by rw [hf]; exact List.mem_cons_self
    exact ⟨x, rfl, fr_lt this, rfl⟩
end NS

set_option Elab.async false
set_option linter.all false
set_option maxRecDepth 100000
set_option maxHeartbeats 4000000
namespace NS
open PySem PySem.Spec PyProof.Rows L2 Evl LK LT LG LS LQ LX LO
/-! ### the methods' promises -/
def spIw : Sp := fun vs H Q _ => ∃ z : Int, vs = [.int z] ∧ RetV (.bl (decide (0 ≤ z))) H Q
def In (cs : List Int) (z : Int) : Prop := 0 ≤ z ∧ z < cs.length
/-- asked at a block: a value where the block exists, else NotValid -/
def spAt (C N : Addr) (ok : List Int → Int → Prop) (f : List Int → List Bool → Nat → V) : Sp := fun vs H Q E => ∃ p cl hl cs hs z, vs = [.ref p, .int z] ∧ Sp' C H p cl hl cs hs ∧ (∀ k : Nat, z = (k : Int) → k < cs.length → ok cs z → RetV (f cs hs k) H Q) ∧ (¬ (In cs z ∧ ok cs z) → ∀ H', Ex H H' → E (.ref N) none H')
def always : List Int → Int → Prop := fun _ _ => True
def used : List Int → Int → Prop := fun cs z => 5 ≤ z ∧ cv cs z.toNat ≠ 0
section
variable {P : Program} {w : World} {K : PySem.W.Frag} {mg : Str → Option Value} {base : Heap} {C CN CS : Addr}
theorem nat_of {cs : List Int} {z : Int} (h : In cs z) : ∃ k : Nat, z = (k : Int) ∧ k < cs.length := ⟨z.toNat, by have := h.1; omega, by have := h.1; have := h.2; omega⟩
theorem ok_iw {f : Addr} {fd : FuncData} (F : Fun K "is_word" "is_word" sIw f fd) (T : Txt mg K C) : FnOk P w K mg base CX0 1 f fd ["value"] spIw := by
  refine F.ok scIw (fun vs H Q E h => ?_) (fun cdv A outer s H vs Q E hr h => ?_)
  · obtain ⟨z, rfl, _⟩ := h
    rfl
  · obtain ⟨z, rfl, q⟩ := h
    refine ⟨_, (pss_one (ps_ret (pe_and (pe_callB call_isi (by rfl) T.isinstance (by decide +kernel) (pa_cons (pv 0) (pa_cons (pe_bltn (v := .ty "int") (u := .type "int") (by rfl) T.int (by decide +kernel) rfl) pa_nil))) (pe_and (pe_not (pe_callB call_isi (by rfl) T.isinstance (by decide +kernel) (pa_cons (pv 0) (pa_cons (pe_bltn (v := .ty "bool") (u := .type "bool") (by rfl) T.bool (by decide +kernel) rfl) pa_nil)))) (pe_one (pe_cmpR op_ge (pv 0) pe_int (nomark _))))))), ?_⟩
    exact s_ret (ev_is (ev_andV (ev_isi (b := true) (ev_var rfl) ev_c (fun _ _ => .base (.int _)) (kit_ty rfl)) (fun _ => ev_andV (ev_notV (ev_isi (b := false) (ev_var rfl) ev_c (fun _ _ => .base (.int _)) (kit_ty rfl))) (fun _ => ev_op (ev_var rfl) ev_c rv_I0))) (by simp)) fun H1 e1 => q H1 e1
theorem ok_ce {f fW : Addr} {fd fdW : FuncData} (F : Fun K "_check_exists" "Space._check_exists" sCe f fd) (FW : Fun K "is_word" "is_word" sIw fW fdW) (bW : Binds K fdW ["value"] []) (gW : mg "is_word" = some (.ref fW)) (T : Txt mg K C) (XN : Xc K mg "NotValid" CN) : FnOk P w K mg base (L2.CX P w) 2 f fd ["self", "block"] (spAt C CN always fun _ _ _ => .non) := by
  have GW : FnOk P w K mg base CX0 1 fW fdW ["value"] spIw := ok_iw FW T
  refine F.okX scCe (fun vs H Q E h => ?_) (fun cdv A outer s H vs Q E hr h => ?_)
  · obtain ⟨p, cl, hl, cs, hs, z, rfl, _⟩ := h
    rfl
  · obtain ⟨p, cl, hl, cs, hs, z, rfl, S, q, qE⟩ := h
    obtain ⟨dx, ho⟩ := S.o
    refine ⟨_, (pss_one (ps_if (PW.pt (pw_or (pt_not (pt_val (pe_call GW (hr.mono (by decide)) (by rfl) gW FW.kp bW .nil pass0 (pa_cons (pv 1) pa_nil)))) (pw_or1 (pt_cmpR op_ge (pv 1) (pe_fld (pv 0) rfl) (nomark _))))) (pss_one (ps_raise0 rfl XN (takes_of rfl rfl rfl rfl) (by rfl))) pss_nil)), ?_⟩
    refine s_when (et_or (et_not (et_B (ev_call (vs := [.int z]) (ea_cons (ev_var rfl) ea_nil) (fun H1 e1 Q' q' E' => ⟨z, rfl, q'⟩)))) (fun _ => et_test (ev_op (ev_var rfl) (ev_fld (ev_var rfl) ho T.cl T.nB (fl_b _ _ _)) rv_I0))) (fun hb H1 e1 => ?_) (fun hb H1 e1 => ?_)
    · refine qE (fun h => ?_) H1 e1
      obtain ⟨h0, h1⟩ := h.1
      simp at hb
      omega
    · simp at hb
      obtain ⟨k, hk, hlt⟩ := nat_of (cs := cs) (z := z) ⟨by omega, by omega⟩
      exact q k hk hlt True.intro H1 e1
theorem ok_ck {f fC : Addr} {fd fdC : FuncData} (F : Fun K "_check_used" "Space._check_used" sCk f fd) (Gcheck_exists : FnOk P w K mg base (L2.CX P w) 2 fC fdC ["self", "block"] (spAt C CN always fun _ _ _ => .non)) (bcheck_exists : Binds K fdC ["self", "block"] []) (mcheck_exists : Meth K C "_check_exists" fC) (T : Txt mg K C) (XN : Xc K mg "NotValid" CN) : FnOk P w K mg base (L2.CX P w) 3 f fd ["self", "block"] (spAt C CN used fun _ _ _ => .non) := by
  obtain ⟨_, gFIRST_BLOCK⟩ := T.gFIRST_BLOCK
  refine F.okX scCk (fun vs H Q E h => ?_) (fun cdv A outer s H vs Q E hr h => ?_)
  · obtain ⟨p, cl, hl, cs, hs, z, rfl, _⟩ := h
    rfl
  · obtain ⟨p, cl, hl, cs, hs, z, rfl, S, q, qE⟩ := h
    obtain ⟨dx, ho⟩ := S.o
    refine ⟨_, (pss_cons (ps_expr (pe_meth (pv 0) T.cl mcheck_exists Gcheck_exists (hr.mono (by decide)) bcheck_exists .nil (pass_own (takes_of rfl rfl rfl rfl)) (pa_cons (pv 1) pa_nil)))
      (pss_one (ps_if (PW.pt (pw_or (pt_cmpR op_lt (pv 1) (pe_glob (v := .int 5) rfl gFIRST_BLOCK ⟨_, rfl⟩) (nomark _)) (pw_or1 (pt_cmpR op_eq (pe_ix ix_list (pe_fld (pv 0) rfl) (pv 1) (fun _ _ => rfl)) pe_int (nomark _))))) (pss_one (ps_raise0 rfl XN (takes_of rfl rfl rfl rfl) (by rfl))) pss_nil))), ?_⟩
    refine q_m (ev_var rfl) ho (fl_no _ _ _ ⟨by decide +kernel, by decide +kernel, by decide +kernel⟩) (ea_cons (ev_var rfl) ea_nil) fun H1 e1 => ⟨p, cl, hl, cs, hs, z, rfl, S.ex e1, fun k hk hlt _ H2 e2 => ?_, fun hn H2 e2 => qE (fun h => hn ⟨h.1, True.intro⟩) H2 (e1.trans e2)⟩
    subst hk
    have S2 := S.ex (e1.trans e2)
    obtain ⟨dx2, ho2⟩ := S2.o
    refine s_when (et_or (et_test (ev_op (ev_var rfl) ev_c rv_I0)) (fun _ => et_test (ev_op (ev_op (ev_fld (ev_var rfl) ho2 T.cl T.nC (fl_c _ _ _)) (ev_var rfl) (rv_ixL (sq_of S2.c) (atI_nat (cv_at hlt)))) ev_c (rv_eq rfl)))) (fun hb H3 e3 => ?_) (fun hb H3 e3 => ?_)
    · refine qE (fun h => ?_) H3 ((e1.trans e2).trans e3)
      obtain ⟨h0, h5, h6⟩ := h
      rw [Int.toNat_natCast] at h6
      simp at hb
      rcases hb with hb | hb
      · omega
      · exact h6 hb
    · simp at hb
      exact q k rfl hlt ⟨by omega, by rw [Int.toNat_natCast]; exact hb.2⟩ H3 ((e1.trans e2).trans e3)
theorem ok_uses {f fC : Addr} {fd fdC : FuncData} (F : Fun K "uses" "Space.uses" sUses f fd) (Gcheck_exists : FnOk P w K mg base (L2.CX P w) 2 fC fdC ["self", "block"] (spAt C CN always fun _ _ _ => .non)) (bcheck_exists : Binds K fdC ["self", "block"] []) (mcheck_exists : Meth K C "_check_exists" fC) (T : Txt mg K C) : FnOk P w K mg base (L2.CX P w) 3 f fd ["self", "block"] (spAt C CN always fun cs _ k => .int (cv cs k)) := by
  refine F.okX scUses (fun vs H Q E h => ?_) (fun cdv A outer s H vs Q E hr h => ?_)
  · obtain ⟨p, cl, hl, cs, hs, z, rfl, _⟩ := h
    rfl
  · obtain ⟨p, cl, hl, cs, hs, z, rfl, S, q, qE⟩ := h
    obtain ⟨dx, ho⟩ := S.o
    refine ⟨_, (pss_cons (ps_expr (pe_meth (pv 0) T.cl mcheck_exists Gcheck_exists (hr.mono (by decide)) bcheck_exists .nil (pass_own (takes_of rfl rfl rfl rfl)) (pa_cons (pv 1) pa_nil)))
      (pss_one (ps_ret (pe_ix ix_list (pe_fld (pv 0) rfl) (pv 1) (fun _ _ => rfl))))), ?_⟩
    refine q_m (ev_var rfl) ho (fl_no _ _ _ ⟨by decide +kernel, by decide +kernel, by decide +kernel⟩) (ea_cons (ev_var rfl) ea_nil) fun H1 e1 => ⟨p, cl, hl, cs, hs, z, rfl, S.ex e1, fun k hk hlt _ H2 e2 => ?_, fun hn H2 e2 => qE hn H2 (e1.trans e2)⟩
    subst hk
    have S2 := S.ex (e1.trans e2)
    obtain ⟨dx2, ho2⟩ := S2.o
    exact s_ret (ev_op (ev_fld (ev_var rfl) ho2 T.cl T.nC (fl_c _ _ _)) (ev_var rfl) (rv_ixL (sq_of S2.c) (atI_nat (cv_at hlt)))) fun H3 e3 => q k rfl hlt True.intro H3 ((e1.trans e2).trans e3)
theorem sv_uses {H : Hp} {p cl hl : Addr} {cs : List Int} {hs : List Bool} {k : Nat} {f : List Int → List Bool → Nat → V} (S : Sp' C H p cl hl cs hs) (hk : k < cs.length) : SpV (spAt C CN always f) [.ref p, .int (k : Int)] H (f cs hs k) := fun H1 e1 Q q E =>
  ⟨p, cl, hl, cs, hs, k, rfl, S.ex e1, fun k' hk' _ _ H2 e2 => by
    have : k = k' := by omega
    subst this
    exact q H2 e2, fun hn => absurd ⟨⟨by omega, by omega⟩, True.intro⟩ hn⟩
theorem ok_isnew {f fC : Addr} {fd fdC : FuncData} (F : Fun K "is_new" "Space.is_new" sNew f fd) (Guses : FnOk P w K mg base (L2.CX P w) 3 fC fdC ["self", "block"] (spAt C CN always fun cs _ k => .int (cv cs k))) (buses : Binds K fdC ["self", "block"] []) (muses : Meth K C "uses" fC) (T : Txt mg K C) : FnOk P w K mg base (L2.CX P w) 4 f fd ["self", "block"] (spAt C CN always fun cs hs k => .bl (decide (cv cs k > 0) && !hv hs k)) := by
  refine F.okX scNew (fun vs H Q E h => ?_) (fun cdv A outer s H vs Q E hr h => ?_)
  · obtain ⟨p, cl, hl, cs, hs, z, rfl, _⟩ := h
    rfl
  · obtain ⟨p, cl, hl, cs, hs, z, rfl, S, q, qE⟩ := h
    obtain ⟨dx, ho⟩ := S.o
    refine ⟨_, (pss_one (ps_ret (pe_and (pe_cmpR op_gt (pe_meth (pv 0) T.cl muses Guses (hr.mono (by decide)) buses .nil (pass_own (takes_of rfl rfl rfl rfl)) (pa_cons (pv 1) pa_nil)) pe_int (nomark _)) (pe_one (pe_not (pe_ix ix_list (pe_fld (pv 0) rfl) (pv 1) (fun _ _ => rfl))))))), ?_⟩
    by_cases hz : In cs z
    · obtain ⟨k, rfl, hlt⟩ := nat_of hz
      exact s_ret (ev_andV (ev_op (ev_meth (ev_var rfl) ho (fl_no _ _ _ ⟨by decide +kernel, by decide +kernel, by decide +kernel⟩) (ea_cons (ev_var rfl) ea_nil) (sv_uses (CN := CN) (f := fun cs _ k => .int (cv cs k)) S hlt)) ev_c rv_I0) (fun _ => ev_notV (ev_op (ev_fld (ev_var rfl) ho T.cl T.nH (fl_h _ _ _)) (ev_var rfl) (rv_ixL (sq_of S.h) (atI_nat (hv_at (by rw [← S.len]; exact hlt))))))) fun H1 e1 => q k rfl hlt True.intro H1 e1
    · refine ⟨.ref p, rfl, p, dx, _, rfl, ho, fl_no _ _ _ ⟨by decide +kernel, by decide +kernel, by decide +kernel⟩, .int z, rfl, p, cl, hl, cs, hs, z, rfl, S, fun k hk hlt => absurd ⟨by omega, by omega⟩ hz, fun hn H2 e2 => qE hn H2 e2⟩
theorem ok_isfree {f fC : Addr} {fd fdC : FuncData} (F : Fun K "is_free" "Space.is_free" sFree f fd) (Guses : FnOk P w K mg base (L2.CX P w) 3 fC fdC ["self", "block"] (spAt C CN always fun cs _ k => .int (cv cs k))) (buses : Binds K fdC ["self", "block"] []) (muses : Meth K C "uses" fC) (T : Txt mg K C) : FnOk P w K mg base (L2.CX P w) 4 f fd ["self", "block"] (spAt C CN always fun cs hs k => .bl (decide (V.int (cv cs k) = V.int 0) && !hv hs k)) := by
  refine F.okX scFree (fun vs H Q E h => ?_) (fun cdv A outer s H vs Q E hr h => ?_)
  · obtain ⟨p, cl, hl, cs, hs, z, rfl, _⟩ := h
    rfl
  · obtain ⟨p, cl, hl, cs, hs, z, rfl, S, q, qE⟩ := h
    obtain ⟨dx, ho⟩ := S.o
    refine ⟨_, (pss_one (ps_ret (pe_and (pe_cmpR op_eq (pe_meth (pv 0) T.cl muses Guses (hr.mono (by decide)) buses .nil (pass_own (takes_of rfl rfl rfl rfl)) (pa_cons (pv 1) pa_nil)) pe_int (nomark _)) (pe_one (pe_not (pe_ix ix_list (pe_fld (pv 0) rfl) (pv 1) (fun _ _ => rfl))))))), ?_⟩
    by_cases hz : In cs z
    · obtain ⟨k, rfl, hlt⟩ := nat_of hz
      exact s_ret (ev_andV (ev_op (ev_meth (ev_var rfl) ho (fl_no _ _ _ ⟨by decide +kernel, by decide +kernel, by decide +kernel⟩) (ea_cons (ev_var rfl) ea_nil) (sv_uses (CN := CN) (f := fun cs _ k => .int (cv cs k)) S hlt)) ev_c (rv_eq rfl)) (fun _ => ev_notV (ev_op (ev_fld (ev_var rfl) ho T.cl T.nH (fl_h _ _ _)) (ev_var rfl) (rv_ixL (sq_of S.h) (atI_nat (hv_at (by rw [← S.len]; exact hlt))))))) fun H1 e1 => q k rfl hlt True.intro H1 e1
    · refine ⟨.ref p, rfl, p, dx, _, rfl, ho, fl_no _ _ _ ⟨by decide +kernel, by decide +kernel, by decide +kernel⟩, .int z, rfl, p, cl, hl, cs, hs, z, rfl, S, fun k hk hlt => absurd ⟨by omega, by omega⟩ hz, fun hn H2 e2 => qE hn H2 e2⟩
end
end NS

set_option Elab.async false
set_option linter.all false
set_option maxRecDepth 100000
set_option maxHeartbeats 4000000
namespace NS
open PySem PySem.Spec PyProof.Rows L2 Evl LK LT LG LS LQ LX LO
theorem given_length (n : Nat) (f : Nat → Bool) (v : Nat → V) : (given n f v).length = ((List.range n).filter f).length := by
  unfold given
  rw [List.length_map]
theorem given_map (n : Nat) (v : Nat → V) : given n (fun _ => true) v = (List.range n).map v := by
  unfold given
  rw [List.filter_eq_self.mpr fun _ _ => rfl]
def pos (cs : List Int) : List Bool := cs.map fun c => decide (c > 0)
theorem pos_map (cs : List Int) : given (cs.map V.int).length (fun _ => true) (fun i => .bl (decide (cv cs i > 0))) = (pos cs).map V.bl := by
  rw [given_map, List.length_map]
  unfold pos
  rw [List.map_map]
  apply List.ext_getElem
  · simp
  · intro i h1 h2
    simp only [List.length_map, List.length_range] at h1
    simp [cv, List.getD_eq_getElem?_getD, List.getElem?_eq_getElem h1]
theorem not_dec (b : Bool) : (!b) = decide (V.bl b = V.bl false) := by
  cases b
  · rw [decide_eq_true rfl]; rfl
  · rw [decide_eq_false (by intro h; cases h)]; rfl
theorem map_set (cs : List Int) (k : Nat) (x : Int) : (cs.map V.int).set k (.int x) = (cs.set k x).map V.int := (List.map_set).symm
def spCu (C : Addr) (b? : Bool → Prop) : Sp := fun vs H Q _ => ∃ p cl hl cs hs b, vs = [.ref p, .bl b] ∧ Sp' C H p cl hl cs hs ∧ RetV (.int ((fr cs hs b).length : Nat)) H Q
def spSelf (C : Addr) (f : List Int → List Bool → V) : Sp := fun vs H Q _ => ∃ p cl hl cs hs, vs = [.ref p] ∧ Sp' C H p cl hl cs hs ∧ RetV (f cs hs) H Q
def spTake (C N : Addr) : Sp := fun vs H Q E => ∃ p cl hl cs hs r, vs = [.ref p, .int r] ∧ Sp' C H p cl hl cs hs ∧ 0 ≤ r ∧ (((fr cs hs false).length : Int) ≤ r → ∀ H', Ex H H' → E (.ref N) none H') ∧
  (r < ((fr cs hs false).length : Int) → ∀ (k : Nat) H1 H2, headV (fr cs hs false) = .int (k : Int) → k < cs.length → Ex H H1 → Ex (upd H1 cl (.lst ((cs.set k 1).map V.int))) H2 → Q (.int (k : Int)) H2)
def spChg (C N : Addr) (d : Int) (f : List Int → Nat → V) : Sp := fun vs H Q E => ∃ p cl hl cs hs z, vs = [.ref p, .int z] ∧ Sp' C H p cl hl cs hs ∧ (∀ k : Nat, z = (k : Int) → k < cs.length → used cs z → ∀ H1 H2, Ex H H1 → Ex (upd H1 cl (.lst ((cs.set k (cv cs k + d)).map V.int))) H2 → Q (f cs k) H2) ∧ (¬ (In cs z ∧ used cs z) → ∀ H', Ex H H' → E (.ref N) none H')
def spSettle (C : Addr) : Sp := fun vs H Q _ => ∃ p cl hl cs hs dx, vs = [.ref p] ∧ Sp' C H p cl hl cs hs ∧ H p = some (.ins C dx (flds cs.length cl hl)) ∧ ∀ l H1, H l = none → Ex H H1 → H1 l = some (.lst ((pos cs).map V.bl)) → Q .non (upd H1 p (.ins C dx (flds cs.length cl l)))
def spSaved (C : Addr) : Sp := fun vs H Q _ => ∃ p cl hl cs hs, vs = [.ref p] ∧ Sp' C H p cl hl cs hs ∧ ∀ t ct ht H1, H t = none → H ct = none → H ht = none → Ex H H1 → H1 t = some (.tup [.ref ct, .ref ht]) → H1 ct = some (.tup (cs.map V.int)) → H1 ht = some (.tup (hs.map V.bl)) → Q (.ref t) H1
def spRest (K : PySem.W.Frag) (C : Addr) : Sp := fun vs H Q _ => ∃ p t ct ht cl hl cs hs cs' hs', vs = [.ref p, .ref t] ∧ Sp' C H p cl hl cs hs ∧ SqT K H t [.ref ct, .ref ht] ∧ SqT K H ct (cs'.map V.int) ∧ SqT K H ht (hs'.map V.bl) ∧ cs'.length = cs.length ∧ hs'.length = cs.length ∧
  ∀ cl' hl' H1, Fr (fun a => a = p) H H1 → H cl' = none → H hl' = none → cl' ≠ hl' → Sp' C H1 p cl' hl' cs' hs' → Q .non H1
def spInit (K : PySem.W.Frag) (C : Addr) : Sp := fun vs H Q _ => ∃ p u dx cs, vs = [.ref p, .ref u] ∧ H p = some (.ins C dx []) ∧ SqL K H u (cs.map V.int) ∧ cs.length ≤ 256 ∧ ∀ cl hl H1, Fr (fun a => a = p) H H1 → H cl = none → H hl = none → cl ≠ hl → Sp' C H1 p cl hl cs (pos cs) → Q .non H1
section
variable {P : Program} {w : World} {K : PySem.W.Frag} {mg : Str → Option Value} {base : Heap} {C CN CS : Addr}
theorem ok_cu {f : Addr} {fd : FuncData} (F : Fun K "_count_unused" "Space._count_unused" sCu f fd) (T : Txt mg K C) : FnOk P w K mg base CX0 1 f fd ["self", "held"] (spCu C fun _ => True) := by
  refine F.ok scCu (fun vs H Q E h => ?_) (fun cdv A outer s H vs Q E hr h => ?_)
  · obtain ⟨p, cl, hl, cs, hs, b, rfl, _⟩ := h
    rfl
  · obtain ⟨p, cl, hl, cs, hs, b, rfl, S, q⟩ := h
    obtain ⟨dx, ho⟩ := S.o
    refine ⟨_, (pss_one (ps_ret (pe_callB call_len_seq (by rfl) T.len (by decide +kernel) (pa_cons (pe_lc (own := [("count", 2), ("now_held", 3)]) (g := gTup K 2 (gCons (gName 2) (gCons (gName 3) gNil))) rfl scCu.nd (pi_zip (by rfl) T.zip (pa_cons (pe_fld (pv 0) rfl) (pa_cons (pe_fld (pv 0) rfl) pa_nil))) (blkOk_by (own := [("count", 2), ("now_held", 3)]) (N := ["self", "held", "count", "now_held"]) (sc := defScope sCu) (by decide +kernel)) (fun _ _ _ _ _ => pg_tup rfl (pgs_cons (pg_name (i := 2) scCu.nd rfl (Or.inl rfl)) (pgs_cons (pg_name (i := 3) scCu.nd rfl (Or.inl rfl)) pgs_nil))) (fun _ _ _ _ _ => (pts_one (PW.pt (pw_and (pt_cmpR op_eq (pv 2) pe_int (nomark _)) (pw_and1 (pt_cmpR op_eq (pv 3) (pv 1) (nomark _))))))) (fun _ _ _ _ _ => (pv 2))) pa_nil)))), ?_⟩
    refine s_ret (ev_is (ev_lenN (el_lcZ (fr1 cs hs b) (fun i => .int (cv cs i)) (ea_cons (ev_fld (ev_var rfl) ho T.cl T.nC (fl_c _ _ _)) (ea_cons (ev_fld (ev_var rfl) ho T.cl T.nH (fl_h _ _ _)) ea_nil)) (sq_of S.c) (sq_of S.h) (by rw [List.length_map, List.length_map]; exact S.len) (by rw [List.length_map]; have := S.le; omega) (fun _ _ => rfl)
      (fun n x y H1 e1 hx hy => ?_) (fun n x y H1 e1 hx hy _ => ?_))) (show _ = V.int ((fr cs hs b).length : Nat) by rw [given_length, List.length_map]; rfl)) fun H1 e1 => q H1 e1
    · have hn : n < cs.length := by
        have := (List.getElem?_eq_some_iff.mp hx).1
        rwa [List.length_map] at this
      rw [cv_at hn] at hx
      cases hx
      rw [hv_at (by rw [← S.len]; exact hn)] at hy
      cases hy
      exact et_and (et_test (ev_op (ev_var rfl) ev_c (rv_eq rfl))) (fun _ => et_test (ev_op (ev_var rfl) (ev_var rfl) (rv_eq rfl)))
    · have hn : n < cs.length := by
        have := (List.getElem?_eq_some_iff.mp hx).1
        rwa [List.length_map] at this
      rw [cv_at hn] at hx
      cases hx
      exact ev_var rfl
theorem ok_free {f fC : Addr} {fd fdC : FuncData} (F : Fun K "free" "Space.free" sFr f fd) (Gcount_unused : FnOk P w K mg base CX0 1 fC fdC ["self", "held"] (spCu C fun _ => True)) (bcount_unused : Binds K fdC ["self", "held"] []) (mcount_unused : Meth K C "_count_unused" fC) (T : Txt mg K C) : FnOk P w K mg base CX0 2 f fd ["self"] (spSelf C fun cs hs => .int ((fr cs hs false).length : Nat)) := by
  refine F.ok scFr (fun vs H Q E h => ?_) (fun cdv A outer s H vs Q E hr h => ?_)
  · obtain ⟨p, cl, hl, cs, hs, rfl, _⟩ := h
    rfl
  · obtain ⟨p, cl, hl, cs, hs, rfl, S, q⟩ := h
    obtain ⟨dx, ho⟩ := S.o
    refine ⟨_, (pss_one (ps_ret (pe_meth (pv 0) T.cl mcount_unused Gcount_unused (hr.mono (by decide)) bcount_unused .nil pass0 (pa_cons pe_bl pa_nil)))), ?_⟩
    exact r_m (ev_var rfl) ho (fl_no _ _ _ ⟨by decide +kernel, by decide +kernel, by decide +kernel⟩) (ea_cons ev_c ea_nil) fun H1 e1 => ⟨p, cl, hl, cs, hs, false, rfl, S.ex e1, fun H2 e2 => q H2 (e1.trans e2)⟩
theorem sv_self {H : Hp} {p cl hl : Addr} {cs : List Int} {hs : List Bool} {f : List Int → List Bool → V} (S : Sp' C H p cl hl cs hs) : SpV (spSelf C f) [.ref p] H (f cs hs) := fun H1 e1 Q q E => ⟨p, cl, hl, cs, hs, rfl, S.ex e1, q⟩
theorem ok_least {f fC : Addr} {fd fdC : FuncData} (F : Fun K "least_free" "Space.least_free" sLeast f fd) (Gis_free : FnOk P w K mg base (L2.CX P w) 4 fC fdC ["self", "block"] (spAt C CN always fun cs hs k => .bl (decide (V.int (cv cs k) = V.int 0) && !hv hs k))) (bis_free : Binds K fdC ["self", "block"] []) (mis_free : Meth K C "is_free" fC) (T : Txt mg K C) : FnOk P w K mg base CX0 5 f fd ["self"] (spSelf C fun cs hs => headV (fr cs hs false)) := by
  refine F.ok scLeast (fun vs H Q E h => ?_) (fun cdv A outer s H vs Q E hr h => ?_)
  · obtain ⟨p, cl, hl, cs, hs, rfl, _⟩ := h
    rfl
  · obtain ⟨p, cl, hl, cs, hs, rfl, S, q⟩ := h
    obtain ⟨dx, ho⟩ := S.o
    replace q : RetV (headV (fr cs hs false)) H Q := q
    refine ⟨_, (pss_cons (ps_for PassesOwn.never rfl (pi_range1 (by rfl) T.range (pa_cons (pe_fld (pv 0) rfl) pa_nil)) (pg_name (i := 1) scLeast.nd rfl (Or.inl rfl)) (pss_one (ps_if (pt_val (pe_meth (pv 0) T.cl mis_free Gis_free (hr.mono (by decide)) bis_free .nil passL (pa_cons (pv 1) pa_nil))) (pss_one (ps_ret (pv 1))) pss_nil)))
      (pss_one (ps_ret pe_non))), ?_⟩
    have hle := S.le
    refine q_forR1 (n := (cs.length : Int)) (ea_cons (ev_fld (ev_var rfl) ho T.cl T.nB (fl_b _ _ _)) ea_nil) ⟨by omega, by omega⟩ (fun i σ' H' => ∃ y, σ' = [some (.ref p), y] ∧ Ex H H' ∧ ∀ j, j < i → fr1 cs hs false j = false) (fun H1 e1 => ⟨none, rfl, e1, fun j hj => absurd hj (by omega)⟩) ?_ ?_
    · rintro i σ' H' hi ⟨y, rfl, e0, hn⟩
      have hi' : i < cs.length := by omega
      have eb : (decide (V.int (cv cs i) = V.int 0) && !hv hs i) = fr1 cs hs false i := by
        unfold fr1
        rw [not_dec]
      have S0 := S.ex e0
      refine s_when (et_is (et_B (ev_meth (z := .bl (decide (V.int (cv cs i) = V.int 0) && !hv hs i)) (ev_var rfl) (e0 _ _ ho) (fl_no _ _ _ ⟨by decide +kernel, by decide +kernel, by decide +kernel⟩) (ea_cons (ev_var rfl) ea_nil) (sv_uses (CN := CN) (f := fun cs hs k => .bl (decide (V.int (cv cs k) = V.int 0) && !hv hs k)) S0 hi'))) eb) (fun hb H1 e1 => ?_) (fun hb H1 e1 => ⟨_, rfl, e0.trans e1, fun j hj => ?_⟩)
      · rw [head_some hi' hb hn] at q
        exact s_ret (ev_var rfl) fun H2 e2 => q H2 ((e0.trans e1).trans e2)
      · by_cases hji : j = i
        · rw [hji]
          exact hb
        · exact hn j (by omega)
    · rintro σ' H' ⟨y, rfl, e0, hn⟩
      rw [head_none fun j hj => hn j (by simpa using hj)] at q
      exact s_ret ev_c fun H2 e2 => q H2 (e0.trans e2)
theorem ok_take {f fF fL : Addr} {fd fdF fdL : FuncData} (F : Fun K "take" "Space.take" sTake f fd) (Gfree : FnOk P w K mg base CX0 2 fF fdF ["self"] (spSelf C fun cs hs => .int ((fr cs hs false).length : Nat))) (bfree : Binds K fdF ["self"] []) (mfree : Meth K C "free" fF) (Gleast_free : FnOk P w K mg base CX0 5 fL fdL ["self"] (spSelf C fun cs hs => headV (fr cs hs false))) (bleast_free : Binds K fdL ["self"] []) (mleast_free : Meth K C "least_free" fL) (T : Txt mg K C) (XS : Xc K mg "NoSpace" CS) : FnOk P w K mg base (L2.CX P w) 6 f fd ["self", "reserve"] (spTake C CS) := by
  refine F.okX scTake (fun vs H Q E h => ?_) (fun cdv A outer s H vs Q E hr h => ?_)
  · obtain ⟨p, cl, hl, cs, hs, r, rfl, _⟩ := h
    rfl
  · obtain ⟨p, cl, hl, cs, hs, r, rfl, S, hr0, qE, q⟩ := h
    obtain ⟨dx, ho⟩ := S.o
    refine ⟨_, (pss_cons (ps_if (pt_cmpR op_le (pe_meth0 (pv 0) T.cl mfree Gfree (hr.mono (by decide)) bfree .nil pass0) (pv 1) (nomark _)) (pss_one (ps_raise0 rfl XS (takes_of rfl rfl rfl rfl) (by rfl))) pss_nil)
      (pss_cons (ps_set (i := 2) scTake.nd rfl (Or.inl rfl) (pe_meth0 (pv 0) T.cl mleast_free Gleast_free (hr.mono (by decide)) bleast_free .nil pass0))
      (pss_cons (ps_asg pe_int (pg_sub (pe_fld (pv 0) rfl) (pv 2) set_list))
      (pss_one (ps_ret (pv 2)))))), ?_⟩
    refine q_when (et_test (ev_op (ev_meth0 (ev_var rfl) ho (fl_no _ _ _ ⟨by decide +kernel, by decide +kernel, by decide +kernel⟩) (sv_self (f := fun cs hs => .int ((fr cs hs false).length : Nat)) S)) (ev_var rfl) rv_I0)) (fun hb H1 e1 => qE (of_decide_eq_true hb) H1 e1) (fun hb H1 e1 => ?_)
    have hlt : r < ((fr cs hs false).length : Int) := by
      have := of_decide_eq_false hb
      omega
    obtain ⟨k, hk, hkl, _⟩ := head_of (cs := cs) (hs := hs) (b := false) (by omega)
    have S1 := S.ex e1
    refine q_asg (ev_is (ev_meth0 (ev_var rfl) (e1 _ _ ho) (fl_no _ _ _ ⟨by decide +kernel, by decide +kernel, by decide +kernel⟩) (sv_self (f := fun cs hs => headV (fr cs hs false)) S1)) hk) fun H2 e2 => ?_
    have S2 := S1.ex e2
    refine q_setL (j := k) S2.c ev_c (ev_fld (ev_var rfl) (e2 _ _ (e1 _ _ ho)) T.cl T.nC (fl_c _ _ _)) (ev_var rfl) (by rw [List.length_map]; exact hkl) fun H3 e3 => ?_
    rw [map_set]
    exact s_ret (ev_var rfl) fun H4 e4 => q hlt k H3 H4 hk hkl ((e1.trans e2).trans e3) e4
theorem ok_share {f fC : Addr} {fd fdC : FuncData} (F : Fun K "share" "Space.share" sShare f fd) (Gcheck_used : FnOk P w K mg base (L2.CX P w) 3 fC fdC ["self", "block"] (spAt C CN used fun _ _ _ => .non)) (bcheck_used : Binds K fdC ["self", "block"] []) (mcheck_used : Meth K C "_check_used" fC) (T : Txt mg K C) : FnOk P w K mg base (L2.CX P w) 4 f fd ["self", "block"] (spChg C CN 1 fun _ _ => .non) := by
  refine F.okX scShare (fun vs H Q E h => ?_) (fun cdv A outer s H vs Q E hr h => ?_)
  · obtain ⟨p, cl, hl, cs, hs, z, rfl, _⟩ := h
    rfl
  · obtain ⟨p, cl, hl, cs, hs, z, rfl, S, q, qE⟩ := h
    obtain ⟨dx, ho⟩ := S.o
    refine ⟨_, (pss_cons (ps_expr (pe_meth (pv 0) T.cl mcheck_used Gcheck_used (hr.mono (by decide)) bcheck_used .nil (pass_own (takes_of rfl rfl rfl rfl)) (pa_cons (pv 1) pa_nil)))
      (pss_one (ps_augS (pe_fld (pv 0) rfl) (pv 1) get_list pe_int ip_add set_list))), ?_⟩
    refine q_m (ev_var rfl) ho (fl_no _ _ _ ⟨by decide +kernel, by decide +kernel, by decide +kernel⟩) (ea_cons (ev_var rfl) ea_nil) fun H1 e1 => ⟨p, cl, hl, cs, hs, z, rfl, S.ex e1, fun k hk hlt hu H2 e2 => ?_, fun hn H2 e2 => qE hn H2 (e1.trans e2)⟩
    subst hk
    have S2 := S.ex (e1.trans e2)
    obtain ⟨dx2, ho2⟩ := S2.o
    refine s_augL (ev_fld (ev_var rfl) ho2 T.cl T.nC (fl_c _ _ _)) (ev_var rfl) S2.c (cv_at hlt) ev_c fun H3 e3 => ?_
    rw [map_set]
    exact q k rfl hlt hu H3 _ ((e1.trans e2).trans e3) (Ex.refl _)
theorem ok_drop {f fC : Addr} {fd fdC : FuncData} (F : Fun K "drop" "Space.drop" sDrop f fd) (Gcheck_used : FnOk P w K mg base (L2.CX P w) 3 fC fdC ["self", "block"] (spAt C CN used fun _ _ _ => .non)) (bcheck_used : Binds K fdC ["self", "block"] []) (mcheck_used : Meth K C "_check_used" fC) (T : Txt mg K C) : FnOk P w K mg base (L2.CX P w) 4 f fd ["self", "block"] (spChg C CN (-1) fun cs k => .int (cv cs k - 1)) := by
  refine F.okX scDrop (fun vs H Q E h => ?_) (fun cdv A outer s H vs Q E hr h => ?_)
  · obtain ⟨p, cl, hl, cs, hs, z, rfl, _⟩ := h
    rfl
  · obtain ⟨p, cl, hl, cs, hs, z, rfl, S, q, qE⟩ := h
    obtain ⟨dx, ho⟩ := S.o
    refine ⟨_, (pss_cons (ps_expr (pe_meth (pv 0) T.cl mcheck_used Gcheck_used (hr.mono (by decide)) bcheck_used .nil (pass_own (takes_of rfl rfl rfl rfl)) (pa_cons (pv 1) pa_nil)))
      (pss_cons (ps_augS (pe_fld (pv 0) rfl) (pv 1) get_list pe_int ip_sub set_list)
      (pss_one (ps_ret (pe_ix ix_list (pe_fld (pv 0) rfl) (pv 1) (fun _ _ => rfl)))))), ?_⟩
    refine q_m (ev_var rfl) ho (fl_no _ _ _ ⟨by decide +kernel, by decide +kernel, by decide +kernel⟩) (ea_cons (ev_var rfl) ea_nil) fun H1 e1 => ⟨p, cl, hl, cs, hs, z, rfl, S.ex e1, fun k hk hlt hu H2 e2 => ?_, fun hn H2 e2 => qE hn H2 (e1.trans e2)⟩
    subst hk
    have S2 := S.ex (e1.trans e2)
    obtain ⟨dx2, ho2⟩ := S2.o
    refine q_augL (ev_fld (ev_var rfl) ho2 T.cl T.nC (fl_c _ _ _)) (ev_var rfl) S2.c (cv_at hlt) ev_c fun H3 e3 => ?_
    rw [map_set]
    have hpc : p ≠ cl := fun e => by
      have h1 := S2.c
      rw [← e, ho2] at h1
      cases h1
    have ho3 : (upd H3 cl (.lst ((cs.set k (cv cs k - 1)).map V.int))) p = some (.ins C dx2 (flds cs.length cl hl)) := by
      rw [upd_ne hpc]
      exact e3 _ _ ho2
    refine s_ret (ev_op (ev_fld (ev_var rfl) ho3 T.cl T.nC (fl_c _ _ _)) (ev_var rfl) (rv_ixL (v := .int (cv cs k - 1)) (sq_of upd_same) (atI_nat (by rw [List.getElem?_map, List.getElem?_set_self hlt]; rfl)))) fun H4 e4 => q k rfl hlt hu H3 H4 ((e1.trans e2).trans e3) e4
theorem el_pos {H : Hp} {σ : L2.St} {te : TE} {a : Addr} {j : Nat} {vs : List Nat} {cs : List Int} (h : Ev te σ H (.ref a)) (hx : SqL K H a (cs.map V.int)) (hz : cs.length ≤ 256) (hw : ∀ x, wipe ((wipe σ vs).set j (some x)) vs = wipe σ vs) (hj : j < (wipe σ vs).length) :
    EvL (tLc (iList K te) (gName j) tYes (tOp (rI0 fun i j => .bl (decide (i > j))) (tVar j) (tC (.int 0))) vs) σ H ((pos cs).map V.bl) := by
  rw [← pos_map]
  refine el_lcL (fun _ => true) (fun i => .bl (decide (cv cs i > 0))) h hx (by rw [List.length_map]; omega) hw (fun _ _ H1 _ _ => fun H2 _ Q q => q _ (Ex.refl _)) fun i x H1 e1 hi _ => ?_
  have hn : i < cs.length := by
    have := (List.getElem?_eq_some_iff.mp hi).1
    rwa [List.length_map] at this
  rw [cv_at hn] at hi
  cases hi
  exact ev_op (ev_var (by rw [List.getElem?_set_self hj])) ev_c rv_I0
theorem eu_tuple {H : Hp} {σ : L2.St} {te : TE} {a : Addr} {xs : List V} (h : Ev te σ H (.ref a)) (hx : SqL K H a xs) : EvU (tCB (fun us H Q => ∃ p ys, us = [.ref p] ∧ ((SqL K H p ys ∧ ∀ l, H l = none → Q (.ref l) (upd H l (.tup ys))) ∨ (SqT K H p ys ∧ Q (.ref p) H))) (tCons te tNil)) σ H xs := fun H1 e Q q =>
  h H1 e _ fun H2 e2 => ⟨a, xs, rfl, .inl ⟨ex_l (e.trans e2) hx, fun l hl => q l _ (fresh_back e2 hl) (e2.trans (Ex.new hl)) upd_same⟩⟩
theorem r_pair {σ : L2.St} {H : Hp} {te tf : TE} {xs ys : List V} {D : Ends} (h1 : EvU te σ H xs) (h2 : EvU tf σ H ys) (q : ∀ t ct ht H1, H t = none → H ct = none → H ht = none → Ex H H1 → H1 t = some (.tup [.ref ct, .ref ht]) → H1 ct = some (.tup xs) → H1 ht = some (.tup ys) → D.rt (.ref t) H1) : tRet (tTup (tCons te (tCons tf tNil))) D σ H :=
  h1 H (Ex.refl _) _ fun ct H1 hct e1 g1 => h2 H1 e1 _ fun ht H2 hht e2 g2 => ⟨by show 2 ≤ sizeLine; decide, fun t ht' => q t ct ht _ (fresh_back (e1.trans e2) ht') hct (fresh_back e1 hht) ((e1.trans e2).trans (Ex.new ht')) upd_same ((Ex.new ht') _ _ (e2 _ _ g1)) ((Ex.new ht') _ _ g2)⟩
theorem ok_init {f : Addr} {fd : FuncData} (F : Fun K "__init__" "Space.__init__" sInit f fd) (T : Txt mg K C) : FnOk P w K mg base CX0 1 f fd ["self", "uses"] (spInit K C) := by
  refine F.ok scInit (fun vs H Q E h => ?_) (fun cdv A outer s H vs Q E hr h => ?_)
  · obtain ⟨p, u, dx, cs, rfl, _⟩ := h
    rfl
  · obtain ⟨p, u, dx, cs, rfl, ho, hU, hle, q⟩ := h
    refine ⟨_, (pss_cons (ps_fld (pv 0) (pe_callB call_len_seq (by rfl) T.len (by decide +kernel) (pa_cons (pv 1) pa_nil)) rfl)
      (pss_cons (ps_fld (pv 0) (pe_callTy call_list_of (by rfl) T.list (by decide +kernel) (pa_cons (pv 1) pa_nil)) rfl)
      (pss_one (ps_fld (pv 0) (pe_lc (own := [("count", 2)]) (g := gName 2) (tt := tYes) rfl scInit.nd (pi_list (pv 1)) (blkOk_by (own := [("count", 2)]) (N := ["self", "uses", "count"]) (sc := defScope sInit) (by decide +kernel)) (fun _ _ _ _ _ => pg_name (i := 2) scInit.nd rfl (Or.inl rfl)) (fun _ _ _ _ _ => pts_nil) (fun _ _ _ _ _ => (pe_cmpR op_gt (pv 2) pe_int (nomark _)))) rfl)))), ?_⟩
    refine q_fld (ev_is (ev_len (ev_var rfl) hU) (by rw [List.length_map])) (ev_var rfl) ho T.cl T.nB (by show 0 < 1000; decide) fun H1 e1 => ?_
    rw [fl_0]
    have u1 := mut_l (fs' := [(("blocks" : Str), V.int cs.length)]) e1 ho hU
    refine q_fldL (el_list (ev_var rfl) u1) (ev_var rfl) upd_same T.cl T.nC (by show 1 < 1000; decide) fun c1 H2 hc1 e2 h2 => ?_
    rw [fl_1]
    have u2 := mut_l (fs' := [(("blocks" : Str), V.int cs.length), (("_counts" : Str), V.ref c1)]) e2 upd_same u1
    refine s_fldL (el_pos (ev_var rfl) u2 hle (fun _ => rfl) (by show 2 < 3; decide)) (ev_var rfl) upd_same T.cl T.nH (by show 2 < 1000; decide) fun h1' H3 hh1 e3 h3 => ?_
    rw [fl_2]
    have nc : c1 ≠ p := fun e => by
      rw [e, upd_same] at hc1
      cases hc1
    have nh : h1' ≠ p := fun e => by
      rw [e, upd_same] at hh1
      cases hh1
    have c3 : H3 c1 = some (.lst (cs.map V.int)) := e3 _ _ (by rw [upd_ne nc]; exact h2)
    refine q c1 h1' _ (fun a o ha hn => ?_) ?_ ?_ (fun e => ?_) ⟨by unfold pos; rw [List.length_map], hle, ⟨dx, upd_same⟩, by rw [upd_ne nc]; exact c3, by rw [upd_ne nh]; exact h3⟩
    · rw [upd_ne hn]
      exact e3 _ _ (by rw [upd_ne hn]; exact e2 _ _ (by rw [upd_ne hn]; exact e1 _ _ ha))
    · rw [upd_ne nc] at hc1
      exact fresh_back e1 hc1
    · rw [upd_ne nh] at hh1
      have := fresh_back e2 hh1
      rw [upd_ne nh] at this
      exact fresh_back e1 this
    · rw [← e, upd_ne nc, h2] at hh1
      cases hh1
end
end NS

set_option Elab.async false
set_option linter.all false
set_option maxRecDepth 100000
set_option maxHeartbeats 4000000
namespace NT
open PySem PySem.Spec PyProof.Rows L2 Evl LK LT LG LS LQ LX LO LN LP LH LV LZ LW StX LD
def top (i : Nat) : Stmt := PySem.Challenge.pw_laminae_k59_commit_steps.main.body.getD i (.Pass ⟨0, 0, 0, 0⟩)
abbrev sRb : Stmt := top 17
theorem scRb : FnScope ["disk", "number", "words", "at"] ["disk", "number"] (defScope sRb) := ⟨rfl, rfl, rfl, by decide +kernel, rfl, by decide +kernel, by decide +kernel⟩
abbrev sHin : Stmt := inClass (top 24) 0
theorem scHin : FnScope ["self", "generation", "table", "blocks"] ["self", "generation", "table", "blocks"] (defScope sHin) := ⟨rfl, rfl, rfl, by decide +kernel, rfl, by decide +kernel, by decide +kernel⟩
abbrev sInit : Stmt := inClass (top 38) 0
theorem scInit : FnScope ["self", "disk", "head", "space"] ["self", "disk", "head", "space"] (defScope sInit) := ⟨rfl, rfl, rfl, by decide +kernel, rfl, by decide +kernel, by decide +kernel⟩
abbrev sUr : Stmt := inClass (top 38) 2
theorem scUr : FnScope ["self", "reserve"] ["self", "reserve"] (defScope sUr) := ⟨rfl, rfl, rfl, by decide +kernel, rfl, by decide +kernel, by decide +kernel⟩
abbrev sGen : Stmt := inClass (top 38) 4
theorem scGen : FnScope ["self"] ["self"] (defScope sGen) := ⟨rfl, rfl, rfl, by decide +kernel, rfl, by decide +kernel, by decide +kernel⟩
abbrev sRead : Stmt := inClass (top 38) 5
theorem scRead : FnScope ["self", "pointer", "number"] ["self", "pointer"] (defScope sRead) := ⟨rfl, rfl, rfl, by decide +kernel, rfl, by decide +kernel, by decide +kernel⟩
abbrev sNp : Stmt := inClass (top 38) 6
theorem scNp : FnScope ["self"] ["self"] (defScope sNp) := ⟨rfl, rfl, rfl, by decide +kernel, rfl, by decide +kernel, by decide +kernel⟩
abbrev sMake : Stmt := inClass (top 38) 7
theorem scMake : FnScope ["self", "words", "number"] ["self", "words"] (defScope sMake) := ⟨rfl, rfl, rfl, by decide +kernel, rfl, by decide +kernel, by decide +kernel⟩
abbrev sNew : Stmt := inClass (top 38) 8
theorem scNew : FnScope ["self", "pointer", "number"] ["self", "pointer"] (defScope sNew) := ⟨rfl, rfl, rfl, by decide +kernel, rfl, by decide +kernel, by decide +kernel⟩
abbrev sWrite : Stmt := inClass (top 38) 9
theorem scWrite : FnScope ["self", "pointer", "words"] ["self", "pointer", "words"] (defScope sWrite) := ⟨rfl, rfl, rfl, by decide +kernel, rfl, by decide +kernel, by decide +kernel⟩
abbrev sShare : Stmt := inClass (top 38) 10
theorem scShare : FnScope ["self", "pointer"] ["self", "pointer"] (defScope sShare) := ⟨rfl, rfl, rfl, by decide +kernel, rfl, by decide +kernel, by decide +kernel⟩
abbrev sDrop : Stmt := inClass (top 38) 11
theorem scDrop : FnScope ["self", "pointer", "number", "left"] ["self", "pointer"] (defScope sDrop) := ⟨rfl, rfl, rfl, by decide +kernel, rfl, by decide +kernel, by decide +kernel⟩
abbrev sUses : Stmt := inClass (top 38) 12
theorem scUses : FnScope ["self", "pointer"] ["self", "pointer"] (defScope sUses) := ⟨rfl, rfl, rfl, by decide +kernel, rfl, by decide +kernel, by decide +kernel⟩
abbrev sReq : Stmt := inClass (top 38) 13
theorem scReq : FnScope ["self", "many"] ["self", "many"] (defScope sReq) := ⟨rfl, rfl, rfl, by decide +kernel, rfl, by decide +kernel, by decide +kernel⟩
abbrev sFree : Stmt := inClass (top 38) 14
theorem scFree : FnScope ["self"] ["self"] (defScope sFree) := ⟨rfl, rfl, rfl, by decide +kernel, rfl, by decide +kernel, by decide +kernel⟩
abbrev sNb : Stmt := inClass (top 38) 15
theorem scNb : FnScope ["self"] ["self"] (defScope sNb) := ⟨rfl, rfl, rfl, by decide +kernel, rfl, by decide +kernel, by decide +kernel⟩
/-! ### a store: its fields, its dict of new blocks, its disk and space -/
open ND (DK Dk St)
open NS (fr cv hv headV used In flds)
structure Txt (mg : Str → Option Value) : Prop where
  len : mg "len" = none
  range : mg "range" = none
  list : mg "list" = none
  tuple : mg "tuple" = none
  sorted : mg "sorted" = none
  isinstance : mg "isinstance" = none
  abs : mg "abs" = none
  int : mg "int" = none
  bool : mg "bool" = none
  min : mg "min" = none
  max : mg "max" = none
  gBLOCK_WORDS : ∃ t, mg "BLOCK_WORDS" = some (.int 32 t)
  gBLOCK_SECTORS : ∃ t, mg "BLOCK_SECTORS" = some (.int 4 t)
  gFIRST_BLOCK : ∃ t, mg "FIRST_BLOCK" = some (.int 5 t)
  gADD : ∃ t, mg "ADD" = some (.int 60 t)
structure TxT (mg : Str → Option Value) (K : PySem.W.Frag) (C : Addr) : Prop where
  cl : Cls K C
  nd : NoAttr K C "disk"
  nh : NoAttr K C "head"
  ns : NoAttr K C "space"
  nt : NoAttr K C "table"
  nr : NoAttr K C "reserve"
  nm : NoAttr K C "_memory"
  mgC : mg "Store" = some (.ref C)
structure TxH (mg : Str → Option Value) (K : PySem.W.Frag) (C : Addr) : Prop where
  cl : Cls K C
  ng : NoAttr K C "generation"
  nt : NoAttr K C "table"
  nb : NoAttr K C "blocks"
  mgC : mg "Head" = some (.ref C)
def hfl (g : Int) (tb : Addr) (n : Int) : List (Str × V) := [(("generation" : Str), .int g), (("table" : Str), .ref tb), (("blocks" : Str), .int n)]
def sfl (dp hp sp tb : Addr) (r : Int) (m : Addr) : List (Str × V) := [(("disk" : Str), .ref dp), (("head" : Str), .ref hp), (("space" : Str), .ref sp), (("table" : Str), .ref tb), (("reserve" : Str), .int r), (("_memory" : Str), .ref m)]
section
variable {dp hp sp tb m : Addr} {r r' : Int}
theorem t_d : (sfl dp hp sp tb r m).lookup ("disk" : Str) = some (V.ref dp) := rfl
theorem t_h : (sfl dp hp sp tb r m).lookup ("head" : Str) = some (V.ref hp) := rfl
theorem t_s : (sfl dp hp sp tb r m).lookup ("space" : Str) = some (V.ref sp) := rfl
theorem t_t : (sfl dp hp sp tb r m).lookup ("table" : Str) = some (V.ref tb) := rfl
theorem t_r : (sfl dp hp sp tb r m).lookup ("reserve" : Str) = some (V.int r) := rfl
theorem t_m : (sfl dp hp sp tb r m).lookup ("_memory" : Str) = some (V.ref m) := rfl
theorem t_pr : putF "reserve" (V.int r') (sfl dp hp sp tb r m) = sfl dp hp sp tb r' m := rfl
theorem t_no {x : Str} (h : x ≠ "disk" ∧ x ≠ "head" ∧ x ≠ "space" ∧ x ≠ "table" ∧ x ≠ "reserve" ∧ x ≠ "_memory") : (sfl dp hp sp tb r m).lookup x = Option.none := by
  unfold sfl
  rw [List.lookup_cons, beq_false_of_ne h.1, List.lookup_cons, beq_false_of_ne h.2.1, List.lookup_cons, beq_false_of_ne h.2.2.1, List.lookup_cons, beq_false_of_ne h.2.2.2.1, List.lookup_cons, beq_false_of_ne h.2.2.2.2.1, List.lookup_cons, beq_false_of_ne h.2.2.2.2.2]
  rfl
end
/-- which new blocks the dict holds -/
structure Mem (G : Hp) (n : Nat) (kvs : List (Key × V)) (mem : Nat → Option (List Int)) : Prop where
  v : ∀ k : Nat, (mem k = none ∧ valV kvs (.inl (k : Int)) = none) ∨ ∃ ws t, mem k = some ws ∧ valV kvs (.inl (k : Int)) = some (.ref t) ∧ G t = some (.tup (ws.map V.int))
  ks : ∃ ks : List Nat, kvs.map (·.1) = ks.map (fun k : Nat => (Sum.inl (k : Int) : Key)) ∧ ks.Nodup ∧ ∀ k, k ∈ ks ↔ k < n ∧ mem k ≠ none
theorem Mem.ex {G G' : Hp} {n : Nat} {kvs : List (Key × V)} {mem : Nat → Option (List Int)} (h : Mem G n kvs mem) (e : Ex G G') : Mem G' n kvs mem := ⟨fun k => (h.v k).imp id fun ⟨ws, t, a, b, c⟩ => ⟨ws, t, a, b, e _ _ c⟩, h.ks⟩
theorem nodup_len {n : Nat} : ∀ {ks : List Nat}, ks.Nodup → (∀ k ∈ ks, k < n) → ks.length ≤ n := fun {ks} hn hk => by
  have hp : ks.Perm ((List.range n).filter fun k => decide (k ∈ ks)) := (List.perm_ext_iff_of_nodup hn (List.Pairwise.filter _ List.nodup_range)).mpr fun a => by
    rw [List.mem_filter, List.mem_range, decide_eq_true_eq]
    exact ⟨fun h => ⟨hk a h, h⟩, fun h => h.2⟩
  rw [hp.length_eq]
  have := List.length_filter_le (fun k => decide (k ∈ ks)) (List.range n)
  rw [List.length_range] at this
  exact this
theorem Mem.len {G : Hp} {n : Nat} {kvs : List (Key × V)} {mem : Nat → Option (List Int)} (h : Mem G n kvs mem) : kvs.length ≤ n := by
  obtain ⟨ks, h1, h2, h3⟩ := h.ks
  have := congrArg List.length h1
  rw [List.length_map, List.length_map] at this
  rw [this]
  exact nodup_len h2 fun k hk => ((h3 k).mp hk).1
def setM (mem : Nat → Option (List Int)) (i : Nat) (o : Option (List Int)) : Nat → Option (List Int) := fun x => if x = i then o else mem x
theorem put_map {kvs : List (Key × V)} {k : Key} {v : V} (h : valV kvs k ≠ none) : (putK kvs k v).map (·.1) = kvs.map (·.1) := by
  unfold putK
  have ha : (kvs.any fun kv => decide (kv.1 = k)) = true := by
    rw [valV_any]
    cases hx : valV kvs k with
    | none => exact absurd hx h
    | some x => rfl
  rw [if_pos ha, List.map_map]
  refine List.map_congr_left fun p _ => ?_
  show (if p.1 = k then (p.1, v) else p).1 = p.1
  split <;> rfl
theorem Mem.put {G : Hp} {n i : Nat} {kvs : List (Key × V)} {mem : Nat → Option (List Int)} {ws : List Int} {t : Addr} (h : Mem G n kvs mem) (hi : i < n) (ht : G t = some (.tup (ws.map V.int))) : Mem G n (putK kvs (.inl (i : Int)) (.ref t)) (setM mem i (some ws)) := by
  refine ⟨fun k => ?_, ?_⟩
  · rw [valV_put]
    unfold setM
    by_cases e : k = i
    · subst e
      rw [if_pos rfl, if_pos rfl]
      exact .inr ⟨ws, t, rfl, rfl, ht⟩
    · rw [if_neg e, if_neg (fun z => e (by have := Sum.inl.inj z; omega))]
      exact h.v k
  · obtain ⟨ks, h1, h2, h3⟩ := h.ks
    by_cases hm : mem i = none
    · refine ⟨ks ++ [i], ?_, ?_, fun k => ?_⟩
      · have hv : valV kvs (.inl (i : Int)) = none := by
          rcases h.v i with ⟨_, b⟩ | ⟨_, _, a, _⟩
          · exact b
          · rw [hm] at a
            cases a
        rw [LD.put_keys hv, List.map_append, List.map_append, h1]
        rfl
      · rw [List.nodup_append]
        exact ⟨h2, by simp, fun a ha b hb => by
          rw [List.mem_singleton.mp hb]
          exact fun e => ((h3 i).mp (e ▸ ha)).2 hm⟩
      · rw [List.mem_append, List.mem_singleton, h3]
        unfold setM
        by_cases e : k = i
        · rw [if_pos e, e]
          exact ⟨fun _ => ⟨hi, fun z => by cases z⟩, fun _ => .inr rfl⟩
        · rw [if_neg e]
          exact ⟨fun h => h.resolve_right e, .inl⟩
    · refine ⟨ks, ?_, h2, fun k => ?_⟩
      · rw [put_map, h1]
        rcases h.v i with ⟨a, _⟩ | ⟨_, _, _, b, _⟩
        · exact absurd a hm
        · rw [b]
          exact fun z => by cases z
      · rw [h3]
        unfold setM
        by_cases e : k = i
        · rw [if_pos e, e]
          exact ⟨fun _ => ⟨hi, fun z => by cases z⟩, fun _ => ⟨hi, hm⟩⟩
        · rw [if_neg e]
theorem Mem.del {G : Hp} {n i : Nat} {kvs : List (Key × V)} {mem : Nat → Option (List Int)} (h : Mem G n kvs mem) : Mem G n (dropK kvs (.inl (i : Int))) (setM mem i none) := by
  refine ⟨fun k => ?_, ?_⟩
  · rw [LD.valV_drop]
    unfold setM
    by_cases e : k = i
    · subst e
      rw [if_pos rfl, if_pos rfl]
      exact .inl ⟨rfl, rfl⟩
    · rw [if_neg e, if_neg (fun z => e (by have := Sum.inl.inj z; omega))]
      exact h.v k
  · obtain ⟨ks, h1, h2, h3⟩ := h.ks
    refine ⟨ks.filter fun k => decide (k ≠ i), ?_, List.Pairwise.filter _ h2, fun k => ?_⟩
    · have gen : ∀ (l : List (Key × V)) (ks : List Nat), l.map (·.1) = ks.map (fun k : Nat => (Sum.inl (k : Int) : Key)) → (dropK l (.inl (i : Int))).map (·.1) = (ks.filter fun k => decide (k ≠ i)).map (fun k : Nat => (Sum.inl (k : Int) : Key)) := by
        intro l
        induction l with
        | nil =>
          intro ks hk
          cases ks with
          | nil => rfl
          | cons a r => simp at hk
        | cons p r ih =>
          intro ks hk
          cases ks with
          | nil => simp at hk
          | cons a s =>
            rw [List.map_cons, List.map_cons] at hk
            have hk1 := (List.cons.inj hk).1
            have hk2 := (List.cons.inj hk).2
            unfold dropK at ih ⊢
            by_cases e : a = i
            · rw [List.filter_cons_of_neg (by rw [hk1, e]; simp), List.filter_cons_of_neg (by rw [e]; simp)]
              exact ih s hk2
            · rw [List.filter_cons_of_pos (by rw [hk1]; simp; omega), List.filter_cons_of_pos (by simpa using e), List.map_cons, List.map_cons, hk1, ih s hk2]
      exact gen kvs ks h1
    · rw [List.mem_filter, h3, decide_eq_true_eq]
      unfold setM
      by_cases e : k = i
      · rw [if_pos e]
        exact ⟨fun h => absurd e h.2, fun h => absurd rfl h.2⟩
      · rw [if_neg e]
        exact ⟨fun h => h.1, fun h => ⟨h, e⟩⟩
structure Cc where
  T : Addr
  H : Addr
  S : Addr
  D : Addr
structure Sk where
  dp : Addr
  hp : Addr
  sp : Addr
  tb : Addr
  m : Addr
  cl : Addr
  hl : Addr
  ka : Addr
  sa : Addr
  wa : Addr
  g : Int
  hs : List Bool
  f : Nat → List Int
  n : Nat
  th : Addr
structure Sd where
  r : Int
  cs : List Int
  mem : Nat → Option (List Int)
structure ST (c : Cc) (G H : Hp) (q : Addr) (k : Sk) (d : Sd) : Prop where
  dk : DK c.D G H k.dp k.ka k.sa k.wa k.n ⟨k.f, [], true, none⟩
  o : ∃ dx, H q = some (.ins c.T dx (sfl k.dp k.hp k.sp k.tb d.r k.m))
  gq : G q = none
  h : ∃ dx, G k.hp = some (.ins c.H dx (hfl k.g k.th k.n))
  s : ∃ dx, G k.sp = some (.ins c.S dx (flds k.n k.cl k.hl))
  c : H k.cl = some (.lst (d.cs.map V.int))
  gc : G k.cl = none
  hh : G k.hl = some (.lst (k.hs.map V.bl))
  lc : d.cs.length = k.n
  lh : k.hs.length = k.n
  mm : ∃ kvs, H k.m = some (.dK kvs) ∧ Mem G k.n kvs d.mem
  gm : G k.m = none
  q1 : q ≠ k.dp ∧ q ≠ k.ka ∧ q ≠ k.sa ∧ q ≠ k.wa
  c1 : k.cl ≠ k.dp ∧ k.cl ≠ k.ka ∧ k.cl ≠ k.sa ∧ k.cl ≠ k.wa
  m1 : k.m ≠ k.dp ∧ k.m ≠ k.ka ∧ k.m ≠ k.sa ∧ k.m ≠ k.wa
  qc : q ≠ k.cl
  qm : q ≠ k.m
  cm : k.cl ≠ k.m
theorem dk_bx {C : Addr} {G H H1 : Hp} {p ka sa wa x : Addr} {n : Nat} {d : Dk} (D : DK C G H p ka sa wa n d) (gx : G x = none) (nx : x ≠ p ∧ x ≠ ka ∧ x ≠ sa ∧ x ≠ wa) (b : Bx x H H1) : DK C G H1 p ka sa wa n d := by
  obtain ⟨dx, ho⟩ := D.o
  obtain ⟨ks, k1, k2, k3⟩ := D.k
  obtain ⟨ss, s1, s2, s3⟩ := D.s
  obtain ⟨ts, w1, w2, w3⟩ := D.w
  exact ⟨fun a o h => b a o (fun z => by rw [z, gx] at h; cases h) (D.g a o h), D.gp, D.gk, D.gs, D.gw, D.nks, D.nkw, D.nsw, ⟨dx, b _ _ nx.1.symm ho⟩, ⟨ks, b _ _ nx.2.1.symm k1, k2, k3⟩, ⟨ss, b _ _ nx.2.2.1.symm s1, s2, s3⟩, ⟨ts, b _ _ nx.2.2.2.symm w1, w2, w3⟩, D.n0, D.n1, D.wl, D.ok, D.kz⟩
section
variable {c : Cc} {G G' H H1 H2 : Hp} {q : Addr} {k : Sk} {d : Sd}
theorem ST.ex (s : ST c G H q k d) (e : Ex H H1) : ST c G H1 q k d := ⟨s.dk.ex e, let ⟨dx, h⟩ := s.o; ⟨dx, e _ _ h⟩, s.gq, s.h, s.s, e _ _ s.c, s.gc, s.hh, s.lc, s.lh, let ⟨kvs, a, b⟩ := s.mm; ⟨kvs, e _ _ a, b⟩, s.gm, s.q1, s.c1, s.m1, s.qc, s.qm, s.cm⟩
theorem ST.al (s : ST c G H q k d) : H q ≠ none ∧ H k.cl ≠ none ∧ H k.m ≠ none := by
  obtain ⟨dx, h⟩ := s.o
  obtain ⟨kvs, a, _⟩ := s.mm
  have hc := s.c
  exact ⟨by rw [h]; exact fun z => (by cases z), by rw [hc]; exact fun z => (by cases z), by rw [a]; exact fun z => by cases z⟩
/-- all that is new since H joins what is frozen -/
theorem ST.join (s : ST c G H q k d) (e : Ex H H1) : ∃ G', St G H G' H1 ∧ ST c G' H1 q k d ∧ ∀ a o, H a = none → H1 a = some o → G' a = some o := by
  obtain ⟨a1, a2, a3⟩ := s.al
  obtain ⟨S1, D1⟩ := s.dk.joinG e
  have gg : Ex G (grow G H H1 fun _ => False) := grow_ex
  have s1 := s.ex e
  exact ⟨grow G H H1 fun _ => False, S1, ⟨D1, s1.o, grow_no a1 s.gq, let ⟨dx, h⟩ := s.h; ⟨dx, gg _ _ h⟩, let ⟨dx, h⟩ := s.s; ⟨dx, gg _ _ h⟩, s1.c, grow_no a2 s.gc, gg _ _ s.hh, s.lc, s.lh, let ⟨kvs, a, b⟩ := s1.mm; ⟨kvs, a, b.ex gg⟩, grow_no a3 s.gm, s.q1, s.c1, s.m1, s.qc, s.qm, s.cm⟩, fun a o h h1 => grow_new (ND.DK.rec (motive := fun _ => G a = none) (fun g _ _ _ _ _ _ _ _ _ _ _ _ _ _ _ _ => fresh_back g h) s.dk) h id h1⟩
theorem ST.sp (s : ST c G H q k d) : NS.Sp' c.S H k.sp k.cl k.hl d.cs k.hs := ⟨by rw [s.lc, s.lh], by rw [s.lc]; exact s.dk.n1, let ⟨dx, h⟩ := s.s; ⟨dx, by rw [s.lc]; exact s.dk.g _ _ h⟩, s.c, s.dk.g _ _ s.hh⟩
theorem ST.setR {r : Int} (s : ST c G H q k d) {dx : Addr} (ho : H q = some (.ins c.T dx (sfl k.dp k.hp k.sp k.tb d.r k.m))) (e : Ex H H1) : ST c G (upd H1 q (.ins c.T dx (sfl k.dp k.hp k.sp k.tb r k.m))) q k { d with r := r } := by
  have s1 := s.ex e
  exact ⟨dk_bx s1.dk s.gq s.q1 (Bx.of (Ex.refl _)).up, ⟨dx, upd_same⟩, s.gq, s.h, s.s, by rw [upd_ne s.qc.symm]; exact s1.c, s.gc, s.hh, s.lc, s.lh, let ⟨kvs, a, b⟩ := s1.mm; ⟨kvs, by rw [upd_ne s.qm.symm]; exact a, b⟩, s.gm, s.q1, s.c1, s.m1, s.qc, s.qm, s.cm⟩
/-- another table -/
theorem ST.setT {tb : Addr} (s : ST c G H q k d) {dx : Addr} (e : Ex H H1) : ST c G (upd H1 q (.ins c.T dx (sfl k.dp k.hp k.sp tb d.r k.m))) q { k with tb := tb } d := by
  have s1 := s.ex e
  exact ⟨dk_bx s1.dk s.gq s.q1 (Bx.of (Ex.refl _)).up, ⟨dx, upd_same⟩, s.gq, s.h, s.s, by rw [upd_ne s.qc.symm]; exact s1.c, s.gc, s.hh, s.lc, s.lh, let ⟨kvs, a, b⟩ := s1.mm; ⟨kvs, by rw [upd_ne s.qm.symm]; exact a, b⟩, s.gm, s.q1, s.c1, s.m1, s.qc, s.qm, s.cm⟩
theorem ST.setC {cs : List Int} (s : ST c G H q k d) (hl : cs.length = d.cs.length) (e : Ex H H1) (e2 : Ex (upd H1 k.cl (.lst (cs.map V.int))) H2) : ST c G H2 q k { d with cs := cs } := by
  have s1 := s.ex e
  have t : ST c G (upd H1 k.cl (.lst (cs.map V.int))) q k { d with cs := cs } := ⟨dk_bx s1.dk s.gc s.c1 (Bx.of (Ex.refl _)).up, let ⟨dx, h⟩ := s1.o; ⟨dx, by rw [upd_ne s.qc]; exact h⟩, s.gq, s.h, s.s, upd_same, s.gc, s.hh, by rw [← s.lc]; exact hl, s.lh, let ⟨kvs, a, b⟩ := s1.mm; ⟨kvs, by rw [upd_ne s.cm.symm]; exact a, b⟩, s.gm, s.q1, s.c1, s.m1, s.qc, s.qm, s.cm⟩
  exact t.ex e2
theorem ST.setM {kvs : List (Key × V)} {mem : Nat → Option (List Int)} (s : ST c G H q k d) (hm : Mem G k.n kvs mem) (e : Ex H H1) : ST c G (upd H1 k.m (.dK kvs)) q k { d with mem := mem } := by
  have s1 := s.ex e
  exact ⟨dk_bx s1.dk s.gm s.m1 (Bx.of (Ex.refl _)).up, let ⟨dx, h⟩ := s1.o; ⟨dx, by rw [upd_ne s.qm]; exact h⟩, s.gq, s.h, s.s, by rw [upd_ne s.cm]; exact s1.c, s.gc, s.hh, s.lc, s.lh, ⟨kvs, upd_same, hm⟩, s.gm, s.q1, s.c1, s.m1, s.qc, s.qm, s.cm⟩
end

end NT

set_option Elab.async false
set_option linter.all false
set_option maxRecDepth 100000
set_option maxHeartbeats 4000000
namespace NT
open PySem PySem.Spec PyProof.Rows L2 Evl LK LT LG LS LQ LX LO LN LP LH LV LZ LW StX LD
open ND (DK Dk St)
open NS (fr cv hv headV used In flds)
/-! ### the store's methods -/
def blk (f : Nat → List Int) (k : Nat) : List Int := f (4 * k) ++ f (4 * k + 1) ++ f (4 * k + 2) ++ f (4 * k + 3)
def fre (k : Sk) (d : Sd) : Int := ((fr d.cs k.hs false).length : Int)
def cont (k : Sk) (d : Sd) (i : Nat) : List Int := match d.mem i with
  | some ws => ws
  | none => blk k.f i
def Fm (H H1 : Hp) (q : Addr) (k : Sk) : Prop := ∀ a o, H a = some o → a ≠ q → a ≠ k.cl → a ≠ k.m → H1 a = some o
def newB (k : Sk) (d : Sd) (i : Nat) : Bool := (decide (cv d.cs i > 0) && !hv k.hs i) && decide (cv d.cs i = 1)
def okB (xs : List V) : Prop := ∃ ws : List Int, xs = ws.map V.int ∧ ws.length = 32 ∧ ∀ z ∈ ws, 0 ≤ z
def spRb (C : Addr) : Sp := fun vs H Q _ => ∃ G p ka sa wa n f, ∃ i : Nat, vs = [.ref p, .int (i : Int)] ∧ DK C G H p ka sa wa n ⟨f, [], true, none⟩ ∧ i < n ∧ RetL ((blk f i).map V.int) H Q
def spGen (c : Cc) : Sp := fun vs H Q _ => ∃ G q k d, vs = [.ref q] ∧ ST c G H q k d ∧ RetV (.int (k.g + 1)) H Q
def spFree (c : Cc) : Sp := fun vs H Q _ => ∃ G q k d, vs = [.ref q] ∧ ST c G H q k d ∧ RetV (.int (fre k d)) H Q
def spReq (c : Cc) (CE : Addr) : Sp := fun vs H Q E => ∃ G q k d many, vs = [.ref q, .int many] ∧ ST c G H q k d ∧ (many + d.r ≤ fre k d → RetV .non H Q) ∧ (fre k d < many + d.r → ∀ H', Ex H H' → E (.ref CE) none H')
def spRead (c : Cc) (CN : Addr) : Sp := fun vs H Q E => ∃ G q k d t z xs, vs = [.ref q, .ref t] ∧ ST c G H q k d ∧ H t = some (.tup (.int z :: xs)) ∧ (∀ i : Nat, z = (i : Int) → 5 ≤ i → i < k.n → RetL ((cont k d i).map V.int) H Q) ∧ (¬ (5 ≤ z ∧ z < k.n) → ∀ H', Ex H H' → E (.ref CN) none H')
def spNp (c : Cc) (CE : Addr) : Sp := fun vs H Q E => ∃ G q k d, vs = [.ref q] ∧ ST c G H q k d ∧ (1 + d.r ≤ fre k d → ∀ v, headV (fr d.cs k.hs false) = v → ∀ t H', H t = none → Ex H H' → H' t = some (.tup [v, .int (k.g + 1)]) → Q (.ref t) H') ∧ (fre k d < 1 + d.r → ∀ H', Ex H H' → E (.ref CE) none H')
def spNew (c : Cc) (CN : Addr) : Sp := fun vs H Q E => ∃ G q k d t z xs, vs = [.ref q, .ref t] ∧ ST c G H q k d ∧ H t = some (.tup (.int z :: xs)) ∧ (∀ i : Nat, z = (i : Int) → i < k.n → RetV (.bl (newB k d i)) H Q) ∧ (¬ (0 ≤ z ∧ z < k.n) → ∀ H', Ex H H' → E (.ref CN) none H')
def spUses (c : Cc) (CN : Addr) : Sp := fun vs H Q E => ∃ G q k d t z xs, vs = [.ref q, .ref t] ∧ ST c G H q k d ∧ H t = some (.tup (.int z :: xs)) ∧ (∀ i : Nat, z = (i : Int) → i < k.n → RetV (.int (cv d.cs i)) H Q) ∧ (¬ (0 ≤ z ∧ z < k.n) → ∀ H', Ex H H' → E (.ref CN) none H')
def spUr (c : Cc) : Sp := fun vs H Q _ => ∃ G q k d r, vs = [.ref q, .int r] ∧ ST c G H q k d ∧ ∀ H1, Fm H H1 q k → ST c G H1 q k { d with r := r } → Q .non H1
def spShare (c : Cc) (CN : Addr) : Sp := fun vs H Q E => ∃ G q k d t z xs, vs = [.ref q, .ref t] ∧ ST c G H q k d ∧ H t = some (.tup (.int z :: xs)) ∧ (∀ i : Nat, z = (i : Int) → i < k.n → 5 ≤ i → cv d.cs i ≠ 0 → ∀ H1, Fm H H1 q k → ST c G H1 q k { d with cs := d.cs.set i (cv d.cs i + 1) } → Q .non H1) ∧ (¬ (0 ≤ z ∧ z < k.n ∧ 5 ≤ z ∧ cv d.cs z.toNat ≠ 0) → ∀ H', Ex H H' → E (.ref CN) none H')
def dropD (d : Sd) (i : Nat) : Sd := { d with cs := d.cs.set i (cv d.cs i + -1), mem := if cv d.cs i - 1 = 0 then setM d.mem i none else d.mem }
def spDrop (c : Cc) (CN : Addr) : Sp := fun vs H Q E => ∃ G q k d t z xs, vs = [.ref q, .ref t] ∧ ST c G H q k d ∧ H t = some (.tup (.int z :: xs)) ∧ (∀ i : Nat, z = (i : Int) → i < k.n → 5 ≤ i → cv d.cs i ≠ 0 → ∀ H1, Fm H H1 q k → ST c G H1 q k (dropD d i) → Q (.int (cv d.cs i - 1)) H1) ∧ (¬ (0 ≤ z ∧ z < k.n ∧ 5 ≤ z ∧ cv d.cs z.toNat ≠ 0) → ∀ H', Ex H H' → E (.ref CN) none H')
def spMake (c : Cc) (CN CE Pw : Addr) : Sp := fun vs H Q E => ∃ G q k d u xs, vs = [.ref q, .ref u] ∧ ST c G H q k d ∧ H u = some (.lst xs) ∧ (∀ x ∈ xs, ∃ n, ND.Kd H x n) ∧ Tab H Pw ∧ 0 ≤ d.r ∧ u ≠ k.cl ∧ (¬ okB xs → ∀ H', Ex H H' → E (.ref CN) none H') ∧ (okB xs → fre k d ≤ d.r → ∀ H', Ex H H' → E (.ref CE) none H') ∧
  (∀ (ws : List Int) (i : Nat), xs = ws.map V.int → ws.length = 32 → (∀ z ∈ ws, 0 ≤ z) → d.r < fre k d → headV (fr d.cs k.hs false) = .int (i : Int) → i < k.n → ∀ G' H1 t, St G H G' H1 → Fm H H1 q k → ST c G' H1 q k { d with cs := d.cs.set i 1, mem := setM d.mem i (some ws) } → H t = none → G' t = some (.tup [.int (i : Int), .int (k.g + 1)]) → Q (.ref t) H1)
def spWrite (c : Cc) (CN Pw : Addr) : Sp := fun vs H Q E => ∃ G q k d t z ys u xs, vs = [.ref q, .ref t, .ref u] ∧ ST c G H q k d ∧ H t = some (.tup (.int z :: ys)) ∧ H u = some (.lst xs) ∧ (∀ x ∈ xs, ∃ n, ND.Kd H x n) ∧ Tab H Pw ∧ (¬ (0 ≤ z ∧ z < k.n ∧ newB k d z.toNat = true ∧ okB xs) → ∀ H', Ex H H' → E (.ref CN) none H') ∧
  (∀ (ws : List Int) (i : Nat), xs = ws.map V.int → ws.length = 32 → (∀ z ∈ ws, 0 ≤ z) → z = (i : Int) → i < k.n → newB k d i = true → ∀ G' H1, St G H G' H1 → Fm H H1 q k → ST c G' H1 q k { d with mem := setM d.mem i (some ws) } → Q .non H1)
def memL (k : Sk) (d : Sd) : List Nat := (List.range k.n).filter fun i => (d.mem i).isSome
def spNb (c : Cc) : Sp := fun vs H Q _ => ∃ G q k d, vs = [.ref q] ∧ ST c G H q k d ∧ (memL k d).length < 64 ∧ RetL ((memL k d).map fun i : Nat => V.int (i : Int)) H Q
def tno : ∀ {dp hp sp tb m : Addr} {r : Int} {x : Str}, x = "generation" ∨ x = "free" ∨ x = "require" ∨ x = "is_new" ∨ x = "read" ∨ x = "make" ∨ x = "write" ∨ x = "share" ∨ x = "drop" ∨ x = "uses" ∨ x = "next_pointer" ∨ x = "new_blocks" ∨ x = "use_reserve" → (sfl dp hp sp tb r m).lookup x = Option.none := fun h => by
  rcases h with rfl | rfl | rfl | rfl | rfl | rfl | rfl | rfl | rfl | rfl | rfl | rfl | rfl <;> exact t_no ⟨by decide +kernel, by decide +kernel, by decide +kernel, by decide +kernel, by decide +kernel, by decide +kernel⟩
theorem sno : ∀ {n : Int} {cl hl : Addr} {x : Str}, x = "free" ∨ x = "least_free" ∨ x = "take" ∨ x = "is_new" ∨ x = "uses" ∨ x = "share" ∨ x = "drop" → (flds n cl hl).lookup x = Option.none := fun h => by
  rcases h with rfl | rfl | rfl | rfl | rfl | rfl | rfl <;> exact NS.fl_no _ _ _ ⟨by decide +kernel, by decide +kernel, by decide +kernel⟩
section
variable {K : PySem.W.Frag} {σ : L2.St} {H : Hp} {ta te : TE} {D : Ends}
theorem s_ext {l : Addr} {xs ys : List V} (hl : H l = some (.lst xs)) (ha : Ev ta σ H (.ref l)) (h : EvL te σ H ys) (hz : xs.length + ys.length ≤ 100000) (k : ∀ H1, Ex H H1 → D.nx σ (upd H1 l (.lst (xs ++ ys)))) :
    tDrop (tBM K "list" rExtend ta (tCons te tNil)) D σ H := ha H (Ex.refl H) _ fun H1 e1 =>
  ⟨Or.inl ⟨rfl, xs, sq_of (e1 l _ hl)⟩, h H1 e1 _ fun p H2 hp e2 h2 => ⟨l, p, xs, ys, rfl, rfl, e2 l _ (e1 l _ hl), h2, sz_of hz, k H2 (e1.trans e2)⟩⟩
end
section
variable {c : Cc} {G H H1 : Hp} {q : Addr} {k : Sk} {d : Sd}
theorem sv_gen (s : ST c G H q k d) : SpV (spGen c) [.ref q] H (.int (k.g + 1)) := fun H1 e1 Q qq E => ⟨G, q, k, d, rfl, s.ex e1, qq⟩
theorem sv_free (s : ST c G H q k d) : SpV (spFree c) [.ref q] H (.int (fre k d)) := fun H1 e1 Q qq E => ⟨G, q, k, d, rfl, s.ex e1, qq⟩
theorem fre_le (s : ST c G H q k d) : fre k d ≤ 256 := by
  have h1 := NS.fr_len d.cs k.hs false
  have h2 := s.lc
  have h3 := s.dk.n1
  unfold fre
  omega
theorem Fm.of (e : Ex H H1) : Fm H H1 q k := fun a o h _ _ _ => e _ _ h
theorem st_spu (s : ST c G H q k d) : ∃ dx, H k.sp = some (.ins c.S dx (flds k.n k.cl k.hl)) := by
  obtain ⟨dx, h⟩ := s.s
  exact ⟨dx, s.dk.g _ _ h⟩
end
section
variable {P : Program} {w : World} {K : PySem.W.Frag} {mg : Str → Option Value} {base : Heap} {c : Cc} {CN CO CE Pw : Addr}
theorem ok_rb {f fR : Addr} {fd fdR : FuncData} (F : Fun K "read_block" "read_block" sRb f fd) (GD_read : FnOk P w K mg base (L2.CX P w) 3 fR fdR ["self", "sector"] (ND.spRead c.D CN CO)) (bD_read : Binds K fdR ["self", "sector"] []) (mD_read : Meth K c.D "read" fR) (T : Txt mg) (TD : ND.Txt mg K c.D) : FnOk P w K mg base (L2.CX P w) 4 f fd ["disk", "number"] (spRb c.D) := by
  obtain ⟨_, gBLOCK_SECTORS⟩ := T.gBLOCK_SECTORS
  refine F.okX scRb (fun vs H Q E h => ?_) (fun cdv A outer s H vs Q E hr h => ?_)
  · obtain ⟨G, p, ka, sa, wa, n, f, i, rfl, _⟩ := h
    rfl
  · obtain ⟨G, p, ka, sa, wa, n, f, i, rfl, D, hi, q⟩ := h
    refine ⟨_, (pss_cons (ps_set (i := 2) scRb.nd rfl (Or.inl rfl) (pe_lst pa_nil))
      (pss_cons (ps_for (passes_of rfl) rfl (pi_range1 (by rfl) T.range (pa_cons (pe_glob (v := .int 4) rfl gBLOCK_SECTORS ⟨_, rfl⟩) pa_nil)) (pg_name (i := 3) scRb.nd rfl (Or.inl rfl)) (pss_one (ps_expr (pe_bm PySem.F.plainAttrs_list PySem.F.slot_list_extend PySem.F.type_list_extend mt_extend (pv 2) (pa_cons (pe_meth (pv 0) TD.cl mD_read GD_read (hr.mono (by decide)) bD_read .nil (pass_own (takes_of rfl rfl rfl rfl)) (pa_cons (pe_op op_add (pe_op op_mul (pe_glob (v := .int 4) rfl gBLOCK_SECTORS ⟨_, rfl⟩) (pv 1)) (pv 3)) pa_nil)) pa_nil)))))
      (pss_one (ps_ret (pv 2))))), ?_⟩
    obtain ⟨a1, a2, a3, a4⟩ := D.al
    refine q_asgL (el_lst ea_nil (by decide)) fun wl H1 hw e1 h1 => ?_
    have np : wl ≠ p ∧ wl ≠ ka ∧ wl ≠ sa ∧ wl ≠ wa := ⟨fun z => a1 (by rw [← z]; exact hw), fun z => a2 (by rw [← z]; exact hw), fun z => a3 (by rw [← z]; exact hw), fun z => a4 (by rw [← z]; exact hw)⟩
    refine q_forR1 (n := 4) (ea_cons ev_c ea_nil) ⟨by decide, by decide⟩ (fun j σ' B => ∃ y, σ' = [some (.ref p), some (.int (i : Int)), some (.ref wl), y] ∧ Ex H B ∧ DK c.D G B p ka sa wa n ⟨f, [], true, none⟩ ∧ B wl = some (.lst (((List.range j).flatMap fun x => f (4 * i + x)).map V.int)) ∧ ((List.range j).flatMap fun x => f (4 * i + x)).length = 8 * j) (fun B eB => ⟨none, rfl, e1.trans eB, D.ex (e1.trans eB), eB _ _ h1, rfl⟩) ?_ ?_
    · rintro j σ' B hj ⟨y, rfl, eB, DB, hB, hln⟩
      obtain ⟨dx, ho⟩ := DB.o
      have h8 := DB.kz (4 * i + j)
      refine s_ext (ys := (f (4 * i + j)).map V.int) hB (ev_var rfl) (el_meth (vs := [.int (4 * (i : Int) + j)]) (ev_var rfl) ho (ND.d_no ⟨by decide +kernel, by decide +kernel, by decide +kernel, by decide +kernel, by decide +kernel, by decide +kernel⟩) (ea_cons (ev_op (ev_op ev_c (ev_var rfl) (rv_I (.inl ⟨by decide, by decide⟩))) (ev_var rfl) rv_I0) ea_nil) (fun B1 b1 Q' q' E' => ⟨G, p, ka, sa, wa, n, _, 4 * (i : Int) + j, rfl, DB.ex b1, fun _ s hs hs4 => by
        have : s = 4 * i + j := by omega
        subst this
        exact q', fun h => (by cases h), fun _ hno => absurd ⟨by omega, by omega⟩ hno⟩)) (by
        rw [List.length_map, List.length_map, hln]
        have h8' : (f (4 * i + j)).length = 8 := h8
        omega) fun B1 b1 => ⟨_, rfl, (eB.trans b1).mut hw, dk_bx (DB.ex b1) (fresh_back D.g hw) np (Bx.of (Ex.refl _)).up, ?_, ?_⟩
      · rw [upd_same, List.range_succ, List.flatMap_append, List.map_append]
        simp
      · rw [List.range_succ, List.flatMap_append, List.length_append, hln]
        have h8' : (f (4 * i + j)).length = 8 := h8
        simp [h8']
        omega
    · rintro σ' B ⟨y, rfl, eB, DB, hB, _⟩
      refine s_ret (ev_var rfl) fun B1 b1 => q wl B1 hw (eB.trans b1) ?_
      rw [b1 _ _ hB]
      unfold blk
      simp [List.range_succ]
theorem ok_gen {f : Addr} {fd : FuncData} (F : Fun K "generation" "Store.generation" sGen f fd) (TT : TxT mg K c.T) (TH : TxH mg K c.H) : FnOk P w K mg base CX0 1 f fd ["self"] (spGen c) := by
  refine F.ok scGen (fun vs H Q E h => ?_) (fun cdv A outer s H vs Q E hr h => ?_)
  · obtain ⟨G, q, k, d, rfl, _⟩ := h
    rfl
  · obtain ⟨G, q, k, d, rfl, S, qq⟩ := h
    refine ⟨_, (pss_one (ps_ret (pe_op op_add (pe_fld (pe_fld (pv 0) rfl) rfl) pe_int))), ?_⟩
    obtain ⟨dx, ho⟩ := S.o
    obtain ⟨dh, hh⟩ := S.h
    exact s_ret (ev_op (ev_fld (ev_fld (ev_var rfl) ho TT.cl TT.nh t_h) (S.dk.g _ _ hh) TH.cl TH.ng rfl) ev_c rv_I0) qq
theorem ok_free {f fF : Addr} {fd fdF : FuncData} (F : Fun K "free" "Store.free" sFree f fd) (GSfree : FnOk P w K mg base CX0 2 fF fdF ["self"] (NS.spSelf c.S fun cs hs => .int ((fr cs hs false).length : Nat))) (bSfree : Binds K fdF ["self"] []) (mSfree : Meth K c.S "free" fF) (TT : TxT mg K c.T) (TS : NS.Txt mg K c.S) : FnOk P w K mg base CX0 3 f fd ["self"] (spFree c) := by
  refine F.ok scFree (fun vs H Q E h => ?_) (fun cdv A outer s H vs Q E hr h => ?_)
  · obtain ⟨G, q, k, d, rfl, _⟩ := h
    rfl
  · obtain ⟨G, q, k, d, rfl, S, qq⟩ := h
    refine ⟨_, (pss_one (ps_ret (pe_meth0 (pe_fld (pv 0) rfl) TS.cl mSfree GSfree (hr.mono (by decide)) bSfree .nil pass0))), ?_⟩
    obtain ⟨dx, ho⟩ := S.o
    obtain ⟨ds, hs⟩ := st_spu S
    exact s_ret (ev_meth0 (ev_fld (ev_var rfl) ho TT.cl TT.ns t_s) hs (sno (.inl rfl)) (NS.sv_self (f := fun cs hs => .int ((fr cs hs false).length : Nat)) S.sp)) qq
end

end NT

set_option Elab.async false
set_option linter.all false
set_option maxRecDepth 100000
set_option maxHeartbeats 4000000
namespace NT
open PySem PySem.Spec PyProof.Rows L2 Evl LK LT LG LS LQ LX LO LN LP LH LV LZ LW StX LD
open ND (DK Dk St)
open NS (fr cv hv headV used In flds)
section
variable {K : PySem.W.Frag} {σ : L2.St} {H : Hp} {ta te td tk : TE} {D : Ends} {tz : TS}
theorem el_listT {p : Addr} {xs : List V} (ha : Ev ta σ H (.ref p)) (h : SqT K H p xs) : EvL (tCB (rListS K) (tCons ta tNil)) σ H xs := fun H1 e Q q =>
  ha H1 e _ fun H2 e2 => ⟨p, xs, rfl, Or.inr (ex_t (e.trans e2) h), fun l hl => q l _ (fresh_back e2 hl) (e2.trans (Ex.new hl)) upd_same⟩
theorem q_dputU {d : Addr} {kvs : List (Key × V)} {z : Int} {xs : List V} (hv : EvU te σ H xs) (hd : Ev td σ H (.ref d)) (hk : Ev tk σ H (.int z)) (h : H d = some (.dK kvs)) (hl : kvs.length < 100000) (k : ∀ p H1, H p = none → Ex H H1 → H1 p = some (.tup xs) → tz D σ (upd H1 d (.dK (putK kvs (.inl z) (.ref p))))) : tSeq (sDPut td tk te) tz D σ H := s_dputU (D := { D with nx := tz D }) hv hd hk h hl k
theorem eu_tupV {p : Addr} {xs : List V} (h : Ev te σ H (.ref p)) (hx : H p = some (.lst xs)) : EvU (tCB (fun zs H Q => ∃ p ys, zs = [.ref p] ∧ ((SqL K H p ys ∧ ∀ l, H l = none → Q (.ref l) (upd H l (.tup ys))) ∨ (SqT K H p ys ∧ Q (.ref p) H))) (tCons te tNil)) σ H xs := fun H1 e Q q =>
  h H1 e _ fun H2 e2 => ⟨p, xs, rfl, .inl ⟨sq_of ((e.trans e2) _ _ hx), fun l hl => q l _ (fresh_back e2 hl) (e2.trans (Ex.new hl)) upd_same⟩⟩
end
section
variable {c : Cc} {G G1 H H1 H2 : Hp} {q : Addr} {k : Sk} {d d1 : Sd}
theorem al_of (f : Fm H H1 q k) (s1 : ST c G1 H1 q k d1) : ∀ a, H a ≠ none → H1 a ≠ none := fun a ha z => by
  obtain ⟨a1, a2, a3⟩ := s1.al
  cases ho : H a with
  | none => exact ha ho
  | some o =>
    by_cases e1 : a = q
    · exact a1 (by rw [← e1]; exact z)
    · by_cases e2 : a = k.cl
      · exact a2 (by rw [← e2]; exact z)
      · by_cases e3 : a = k.m
        · exact a3 (by rw [← e3]; exact z)
        · rw [f a o ho e1 e2 e3] at z
          cases z
theorem st_of' (f : Fm H H1 q k) (s1 : ST c G H1 q k d1) : St G H G H1 := ⟨Ex.refl _, fun _ _ h => h, al_of f s1⟩
theorem Fm.trans (f : Fm H H1 q k) (g : Fm H1 H2 q k) : Fm H H2 q k := fun a o h n1 n2 n3 => g a o (f a o h n1 n2 n3) n1 n2 n3
theorem Fm.cl {o : HO} (e : Ex H H1) (e2 : Ex (upd H1 k.cl o) H2) : Fm H H2 q k := fun a u h _ n2 _ => e2 _ _ (by rw [upd_ne n2]; exact e _ _ h)
theorem Fm.mm {o : HO} (e : Ex H H1) : Fm H (upd H1 k.m o) q k := fun a u h _ _ n3 => by rw [upd_ne n3]; exact e _ _ h
theorem Fm.qq {o : HO} (e : Ex H H1) : Fm H (upd H1 q o) q k := fun a u h n1 _ _ => by rw [upd_ne n1]; exact e _ _ h
theorem St.of {G H H1 : Hp} (e : Ex H H1) : St G H G H1 := ⟨Ex.refl _, fun _ _ h => h, fun a h z => h (fresh_back e z)⟩
theorem mem_val (s : ST c G H q k d) {kvs : List (Key × V)} (hm : Mem G k.n kvs d.mem) (i : Nat) : (d.mem i = none ∧ valV kvs (.inl (i : Int)) = none ∧ cont k d i = blk k.f i) ∨ ∃ ws t, d.mem i = some ws ∧ valV kvs (.inl (i : Int)) = some (.ref t) ∧ H t = some (.tup (ws.map V.int)) ∧ cont k d i = ws := by
  rcases hm.v i with ⟨a, b⟩ | ⟨ws, t, a, b, e⟩
  · refine .inl ⟨a, b, ?_⟩
    unfold cont
    rw [a]
  · refine .inr ⟨ws, t, a, b, s.dk.g _ _ e, ?_⟩
    unfold cont
    rw [a]
theorem wd_okB {xs : List V} : (decide ((xs.length : Int) = 32) && xs.all ND.wd) = true ↔ okB xs := by
  rw [Bool.and_eq_true_iff, decide_eq_true_eq]
  constructor
  · rintro ⟨h1, h2⟩
    obtain ⟨ws, rfl, hw⟩ := ND.okW_ints h2
    exact ⟨ws, rfl, by rw [List.length_map] at h1; omega, hw⟩
  · rintro ⟨ws, rfl, h1, h2⟩
    exact ⟨by rw [List.length_map, h1]; rfl, ND.ints_wd h2⟩
end
section
variable {P : Program} {w : World} {K : PySem.W.Frag} {mg : Str → Option Value} {base : Heap} {c : Cc} {CN CO CE Pw : Addr}
theorem ok_sread {f fW fR : Addr} {fd fdW fdR : FuncData} (F : Fun K "read" "Store.read" sRead f fd) (FW : Fun K "is_word" "is_word" ND.sIw fW fdW) (bW : Binds K fdW ["value"] []) (gW : mg "is_word" = some (.ref fW)) (FRb : Fun K "read_block" "read_block" sRb fR fdR) (GRb : FnOk P w K mg base (L2.CX P w) 4 fR fdR ["disk", "number"] (spRb c.D)) (bRb : Binds K fdR ["disk", "number"] []) (gRb : mg "read_block" = some (.ref fR)) (T : Txt mg) (TT : TxT mg K c.T) (TS : NS.Txt mg K c.S) (TD : ND.Txt mg K c.D) (XN : Xc K mg "NotValid" CN) : FnOk P w K mg base (L2.CX P w) 5 f fd ["self", "pointer"] (spRead c CN) := by
  have GW : FnOk P w K mg base CX0 1 fW fdW ["value"] ND.spIw := ND.ok_iw FW TD
  obtain ⟨_, gFIRST_BLOCK⟩ := T.gFIRST_BLOCK
  refine F.okX scRead (fun vs H Q E h => ?_) (fun cdv A outer s H vs Q E hr h => ?_)
  · obtain ⟨G, q, k, d, t, z, xs, rfl, _⟩ := h
    rfl
  · obtain ⟨G, q, k, d, t, z, xs, rfl, S, ht, qq, qE⟩ := h
    refine ⟨_, (pss_cons (ps_set (i := 2) scRead.nd rfl (Or.inl rfl) (pe_ix ix_tup (pv 1) pe_int (fun _ _ => rfl)))
      (pss_cons (ps_if (PW.pt (pw_or (pt_not (pt_val (pe_call GW (hr.mono (by decide)) (by rfl) gW FW.kp bW .nil pass0 (pa_cons (pv 2) pa_nil)))) (pw_or1 (pt_not (pt_chain op_le op_lt (pe_glob (v := .int 5) rfl gFIRST_BLOCK ⟨_, rfl⟩) (pv 2) (pe_fld (pe_fld (pv 0) rfl) rfl)))))) (pss_one (ps_raise0 rfl XN (takes_of rfl rfl rfl rfl) (by rfl))) pss_nil)
      (pss_cons (ps_if (pt_cmp (pc_din (hu_of hr) (pv 2) (pe_fld (pv 0) rfl))) (pss_one (ps_ret (pe_callTy call_list_of (by rfl) T.list (by decide +kernel) (pa_cons (pe_dget (hu_of hr) (pe_fld (pv 0) rfl) (pv 2) (fun _ _ => rfl)) pa_nil)))) pss_nil)
      (pss_one (ps_ret (pe_call GRb (hr.mono (by decide)) (by rfl) gRb FRb.kp bRb .nil (pass_own (takes_of rfl rfl rfl rfl)) (pa_cons (pe_fld (pv 0) rfl) (pa_cons (pv 2) pa_nil)))))))), ?_⟩
    obtain ⟨dx, ho⟩ := S.o
    obtain ⟨ds, hs⟩ := st_spu S
    refine q_asg (ev_op (ev_var rfl) ev_c (rv_ixT (st_of ht) (v := .int z) (atI_nat (j := 0) rfl))) fun H1 e1 => ?_
    refine q_when (b := !(decide (0 ≤ z) && (decide (5 ≤ z) && decide (z < k.n)))) (et_is (et_or (et_not (et_B (ev_call (vs := [.int z]) (ea_cons (ev_var rfl) ea_nil) (ND.sv_iw (.int z))))) (fun _ => et_not (et_chain ev_c (ev_var rfl) (ev_fld (ev_fld (ev_var rfl) (e1 _ _ ho) TT.cl TT.ns t_s) (e1 _ _ hs) TS.cl TS.nB (NS.fl_b _ _ _))))) (by
      show (!decide (0 ≤ z) || !(decide (5 ≤ z) && decide (z < (k.n : Int)))) = !(decide (0 ≤ z) && (decide (5 ≤ z) && decide (z < (k.n : Int))))
      cases decide (0 ≤ z) <;> rfl)) (fun hb H2 e2 => qE (fun h => by
      rw [decide_eq_true (show 0 ≤ z by omega), decide_eq_true h.1, decide_eq_true h.2] at hb
      cases hb) H2 (e1.trans e2)) (fun hb H2 e2 => ?_)
    have hz : 5 ≤ z ∧ z < k.n := by
      simp at hb
      omega
    obtain ⟨i, rfl⟩ := Int.eq_ofNat_of_zero_le (show 0 ≤ z by omega)
    have hi : i < k.n := by omega
    obtain ⟨kvs, hm, hM⟩ := S.mm
    have e12 := e1.trans e2
    have qq := qq i rfl (by omega) hi
    rcases mem_val S hM i with ⟨a, b, hc⟩ | ⟨ws, tt, a, b, hh, hc⟩
    · refine q_when (b := false) (et_is (et_B (ev_dIn (ev_var rfl) (ev_fld (ev_var rfl) (e12 _ _ ho) TT.cl TT.nm t_m) (e12 _ _ hm))) (by rw [b]; rfl)) (fun h => by cases h) (fun _ H3 e3 => ?_)
      rw [hc] at qq
      have e13 := e12.trans e3
      exact s_retL (el_call (vs := [.ref k.dp, .int (i : Int)]) (ea_cons (ev_fld (ev_var rfl) (e13 _ _ ho) TT.cl TT.nd t_d) (ea_cons (ev_var rfl) ea_nil)) (fun H4 e4 Q' q' E' => ⟨G, k.dp, k.ka, k.sa, k.wa, k.n, k.f, i, rfl, S.dk.ex (e13.trans e4), hi, q'⟩)) fun l H4 hl e4 h4 => qq l H4 (fresh_back e13 hl) (e13.trans e4) h4
    · refine q_when (b := true) (et_is (et_B (ev_dIn (ev_var rfl) (ev_fld (ev_var rfl) (e12 _ _ ho) TT.cl TT.nm t_m) (e12 _ _ hm))) (by rw [b]; rfl)) (fun _ H3 e3 => ?_) (fun h => by cases h)
      rw [hc] at qq
      have e13 := e12.trans e3
      exact s_retL (el_listT (ev_dget (ev_fld (ev_var rfl) (e13 _ _ ho) TT.cl TT.nm t_m) (ev_var rfl) (e13 _ _ hm) b) (st_of (e13 _ _ hh))) fun l H4 hl e4 h4 => qq l H4 (fresh_back e13 hl) (e13.trans e4) h4
theorem ok_snew {f fN fU : Addr} {fd fdN fdU : FuncData} (F : Fun K "is_new" "Store.is_new" sNew f fd) (GSis_new : FnOk P w K mg base (L2.CX P w) 4 fN fdN ["self", "block"] (NS.spAt c.S CN NS.always fun cs hs k => .bl (decide (cv cs k > 0) && !hv hs k))) (bSis_new : Binds K fdN ["self", "block"] []) (mSis_new : Meth K c.S "is_new" fN) (GSuses : FnOk P w K mg base (L2.CX P w) 3 fU fdU ["self", "block"] (NS.spAt c.S CN NS.always fun cs _ k => .int (cv cs k))) (bSuses : Binds K fdU ["self", "block"] []) (mSuses : Meth K c.S "uses" fU) (TT : TxT mg K c.T) (TS : NS.Txt mg K c.S) : FnOk P w K mg base (L2.CX P w) 5 f fd ["self", "pointer"] (spNew c CN) := by
  refine F.okX scNew (fun vs H Q E h => ?_) (fun cdv A outer s H vs Q E hr h => ?_)
  · obtain ⟨G, q, k, d, t, z, xs, rfl, _⟩ := h
    rfl
  · obtain ⟨G, q, k, d, t, z, xs, rfl, S, ht, qq, qE⟩ := h
    refine ⟨_, (pss_cons (ps_set (i := 2) scNew.nd rfl (Or.inl rfl) (pe_ix ix_tup (pv 1) pe_int (fun _ _ => rfl)))
      (pss_one (ps_ret (pe_and (pe_meth (pe_fld (pv 0) rfl) TS.cl mSis_new GSis_new (hr.mono (by decide)) bSis_new .nil (pass_own (takes_of rfl rfl rfl rfl)) (pa_cons (pv 2) pa_nil)) (pe_one (pe_cmpR op_eq (pe_meth (pe_fld (pv 0) rfl) TS.cl mSuses GSuses (hr.mono (by decide)) bSuses .nil (pass_own (takes_of rfl rfl rfl rfl)) (pa_cons (pv 2) pa_nil)) pe_int (nomark _))))))), ?_⟩
    refine q_asg (ev_op (ev_var rfl) ev_c (rv_ixT (st_of ht) (v := .int z) (atI_nat (j := 0) rfl))) fun H1 e1 => ?_
    have S1 := S.ex e1
    obtain ⟨dx, ho⟩ := S1.o
    obtain ⟨ds, hs⟩ := st_spu S1
    by_cases hz : 0 ≤ z ∧ z < k.n
    · obtain ⟨i, rfl⟩ := Int.eq_ofNat_of_zero_le hz.1
      have hi : i < k.n := by omega
      have hlt : i < d.cs.length := by rw [S.lc]; exact hi
      refine s_ret (ev_is (ev_andV (ev_meth (ev_fld (ev_var rfl) ho TT.cl TT.ns t_s) hs (sno (.inr (.inr (.inr (.inl rfl))))) (ea_cons (ev_var rfl) ea_nil) (NS.sv_uses (CN := CN) (f := fun cs hs k => .bl (decide (cv cs k > 0) && !hv hs k)) S1.sp hlt)) (fun _ => ev_op (ev_meth (ev_fld (ev_var rfl) ho TT.cl TT.ns t_s) hs (sno (.inr (.inr (.inr (.inr (.inl rfl)))))) (ea_cons (ev_var rfl) ea_nil) (NS.sv_uses (CN := CN) (f := fun cs _ k => .int (cv cs k)) S1.sp hlt)) ev_c (rv_eq rfl))) (w := .bl (newB k d i)) (by unfold newB; simp)) fun H2 e2 => qq i rfl hi H2 (e1.trans e2)
    · refine ⟨.ref q, rfl, q, c.T, dx, _, .ref k.sp, rfl, ho, TT.cl, TT.ns, t_s, k.sp, ds, _, rfl, hs, sno (.inr (.inr (.inr (.inl rfl)))), .int z, rfl, k.sp, k.cl, k.hl, d.cs, k.hs, z, rfl, S1.sp, fun i hi hlt => absurd ⟨by omega, by have := S.lc; omega⟩ hz, fun hn H2 e2 => qE hz H2 (e1.trans e2)⟩
theorem ok_suses {f fU : Addr} {fd fdU : FuncData} (F : Fun K "uses" "Store.uses" sUses f fd) (GSuses : FnOk P w K mg base (L2.CX P w) 3 fU fdU ["self", "block"] (NS.spAt c.S CN NS.always fun cs _ k => .int (cv cs k))) (bSuses : Binds K fdU ["self", "block"] []) (mSuses : Meth K c.S "uses" fU) (TT : TxT mg K c.T) (TS : NS.Txt mg K c.S) : FnOk P w K mg base (L2.CX P w) 4 f fd ["self", "pointer"] (spUses c CN) := by
  refine F.okX scUses (fun vs H Q E h => ?_) (fun cdv A outer s H vs Q E hr h => ?_)
  · obtain ⟨G, q, k, d, t, z, xs, rfl, _⟩ := h
    rfl
  · obtain ⟨G, q, k, d, t, z, xs, rfl, S, ht, qq, qE⟩ := h
    refine ⟨_, (pss_one (ps_ret (pe_meth (pe_fld (pv 0) rfl) TS.cl mSuses GSuses (hr.mono (by decide)) bSuses .nil (pass_own (takes_of rfl rfl rfl rfl)) (pa_cons (pe_ix ix_tup (pv 1) pe_int (fun _ _ => rfl)) pa_nil)))), ?_⟩
    obtain ⟨dx, ho⟩ := S.o
    obtain ⟨ds, hs⟩ := st_spu S
    exact r_m (ev_fld (ev_var rfl) ho TT.cl TT.ns t_s) hs (sno (.inr (.inr (.inr (.inr (.inl rfl)))))) (ea_cons (ev_op (ev_var rfl) ev_c (rv_ixT (st_of ht) (v := .int z) (atI_nat (j := 0) rfl))) ea_nil) fun H1 e1 => ⟨k.sp, k.cl, k.hl, d.cs, k.hs, z, rfl, (S.ex e1).sp, fun i hi hlt _ H2 e2 => qq i hi (by rw [← S.lc]; exact hlt) H2 (e1.trans e2), fun hn H2 e2 => qE (fun h => hn ⟨⟨h.1, by rw [S.lc]; exact h.2⟩, True.intro⟩) H2 (e1.trans e2)⟩
theorem ok_ur {f : Addr} {fd : FuncData} (F : Fun K "use_reserve" "Store.use_reserve" sUr f fd) (TT : TxT mg K c.T) : FnOk P w K mg base CX0 1 f fd ["self", "reserve"] (spUr c) := by
  refine F.ok scUr (fun vs H Q E h => ?_) (fun cdv A outer s H vs Q E hr h => ?_)
  · obtain ⟨G, q, k, d, r, rfl, _⟩ := h
    rfl
  · obtain ⟨G, q, k, d, r, rfl, S, qq⟩ := h
    refine ⟨_, (pss_one (ps_fld (pv 0) (pv 1) rfl)), ?_⟩
    obtain ⟨dx, ho⟩ := S.o
    refine s_fld (ev_var rfl) (ev_var rfl) ho TT.cl TT.nr (by show 6 < 1000; decide) fun H1 e1 => ?_
    rw [t_pr]
    exact qq _ (Fm.qq e1) (S.setR ho e1)
theorem ok_sshare {f fC : Addr} {fd fdC : FuncData} (F : Fun K "share" "Store.share" sShare f fd) (GSshare : FnOk P w K mg base (L2.CX P w) 4 fC fdC ["self", "block"] (NS.spChg c.S CN 1 fun _ _ => .non)) (bSshare : Binds K fdC ["self", "block"] []) (mSshare : Meth K c.S "share" fC) (TT : TxT mg K c.T) (TS : NS.Txt mg K c.S) : FnOk P w K mg base (L2.CX P w) 5 f fd ["self", "pointer"] (spShare c CN) := by
  refine F.okX scShare (fun vs H Q E h => ?_) (fun cdv A outer s H vs Q E hr h => ?_)
  · obtain ⟨G, q, k, d, t, z, xs, rfl, _⟩ := h
    rfl
  · obtain ⟨G, q, k, d, t, z, xs, rfl, S, ht, qq, qE⟩ := h
    refine ⟨_, (pss_one (ps_expr (pe_meth (pe_fld (pv 0) rfl) TS.cl mSshare GSshare (hr.mono (by decide)) bSshare .nil (pass_own (takes_of rfl rfl rfl rfl)) (pa_cons (pe_ix ix_tup (pv 1) pe_int (fun _ _ => rfl)) pa_nil)))), ?_⟩
    obtain ⟨dx, ho⟩ := S.o
    obtain ⟨ds, hs⟩ := st_spu S
    exact s_m (ev_fld (ev_var rfl) ho TT.cl TT.ns t_s) hs (sno (.inr (.inr (.inr (.inr (.inr (.inl rfl))))))) (ea_cons (ev_op (ev_var rfl) ev_c (rv_ixT (st_of ht) (v := .int z) (atI_nat (j := 0) rfl))) ea_nil) fun H1 e1 => ⟨k.sp, k.cl, k.hl, d.cs, k.hs, z, rfl, (S.ex e1).sp, fun i hi hlt hu H2 H3 e2 e3 => qq i hi (by rw [← S.lc]; exact hlt) (by have := hu.1; omega) (by have := hu.2; rw [hi, Int.toNat_natCast] at this; exact this) H3 (Fm.cl (e1.trans e2) e3) (S.setC (by rw [List.length_set]) (e1.trans e2) e3), fun hn H2 e2 => qE (fun h => hn ⟨⟨h.1, by rw [S.lc]; exact h.2.1⟩, h.2.2.1, h.2.2.2⟩) H2 (e1.trans e2)⟩
theorem ok_sdrop {f fC : Addr} {fd fdC : FuncData} (F : Fun K "drop" "Store.drop" sDrop f fd) (GSdrop : FnOk P w K mg base (L2.CX P w) 4 fC fdC ["self", "block"] (NS.spChg c.S CN (-1) fun cs k => .int (cv cs k - 1))) (bSdrop : Binds K fdC ["self", "block"] []) (mSdrop : Meth K c.S "drop" fC) (TT : TxT mg K c.T) (TS : NS.Txt mg K c.S) : FnOk P w K mg base (L2.CX P w) 5 f fd ["self", "pointer"] (spDrop c CN) := by
  refine F.okX scDrop (fun vs H Q E h => ?_) (fun cdv A outer s H vs Q E hr h => ?_)
  · obtain ⟨G, q, k, d, t, z, xs, rfl, _⟩ := h
    rfl
  · obtain ⟨G, q, k, d, t, z, xs, rfl, S, ht, qq, qE⟩ := h
    refine ⟨_, (pss_cons (ps_set (i := 2) scDrop.nd rfl (Or.inl rfl) (pe_ix ix_tup (pv 1) pe_int (fun _ _ => rfl)))
      (pss_cons (ps_set (i := 3) scDrop.nd rfl (Or.inl rfl) (pe_meth (pe_fld (pv 0) rfl) TS.cl mSdrop GSdrop (hr.mono (by decide)) bSdrop .nil (pass_own (takes_of rfl rfl rfl rfl)) (pa_cons (pv 2) pa_nil)))
      (pss_cons (ps_if (PW.pt (pw_and (pt_cmpR op_eq (pv 3) pe_int (nomark _)) (pw_and1 (pt_cmp (pc_din (hu_of hr) (pv 2) (pe_fld (pv 0) rfl)))))) (pss_one (ps_ddel (pe_fld (pv 0) rfl) (pv 2))) pss_nil)
      (pss_one (ps_ret (pv 3)))))), ?_⟩
    obtain ⟨dx, ho⟩ := S.o
    obtain ⟨ds, hs⟩ := st_spu S
    refine q_asg (ev_op (ev_var rfl) ev_c (rv_ixT (st_of ht) (v := .int z) (atI_nat (j := 0) rfl))) fun H0 e0 => ?_
    refine q_mA (ev_fld (ev_var rfl) (e0 _ _ ho) TT.cl TT.ns t_s) (e0 _ _ hs) (sno (.inr (.inr (.inr (.inr (.inr (.inr rfl))))))) (ea_cons (ev_var rfl) ea_nil) fun H1 e1 => ⟨k.sp, k.cl, k.hl, d.cs, k.hs, z, rfl, (S.ex (e0.trans e1)).sp, fun i hi hlt hu H2 H3 e2 e3 => ?_, fun hn H2 e2 => qE (fun h => hn ⟨⟨h.1, by rw [S.lc]; exact h.2.1⟩, h.2.2.1, h.2.2.2⟩) H2 ((e0.trans e1).trans e2)⟩
    subst hi
    have e02 := (e0.trans e1).trans e2
    have S3 := S.setC (by rw [List.length_set]) e02 e3
    have F3 : Fm H H3 q k := Fm.cl e02 e3
    have qq := qq i rfl (by rw [← S.lc]; exact hlt) (by have := hu.1; omega) (by have := hu.2; rw [Int.toNat_natCast] at this; exact this)
    obtain ⟨dx3, ho3⟩ := S3.o
    obtain ⟨kvs, hm, hM⟩ := S3.mm
    refine q_when (b := decide (cv d.cs i - 1 = 0) && (valV kvs (.inl (i : Int))).isSome) (et_is (et_and (et_test (ev_op (ev_var rfl) ev_c (rv_eq rfl))) (fun _ => et_B (ev_dIn (ev_var rfl) (ev_fld (ev_var rfl) ho3 TT.cl TT.nm t_m) hm))) (by simp)) (fun hb H4 e4 => ?_) (fun hb H4 e4 => ?_)
    · obtain ⟨h1, h2⟩ := Bool.and_eq_true_iff.mp hb
      have h1 := of_decide_eq_true h1
      refine s_ddel (ev_fld (ev_var rfl) (e4 _ _ ho3) TT.cl TT.nm t_m) (ev_var rfl) (e4 _ _ hm) h2 fun H5 e5 => ?_
      have S5 := S3.setM (hM.del (i := i)) (e4.trans e5)
      refine s_ret (ev_var rfl) fun H6 e6 => qq H6 ((F3.trans (Fm.mm (e4.trans e5))).trans (Fm.of e6)) ?_
      have hd : dropD d i = { d with cs := d.cs.set i (cv d.cs i + -1), mem := setM d.mem i none } := by
        unfold dropD
        rw [if_pos h1]
      rw [hd]
      exact S5.ex e6
    · refine s_ret (ev_var rfl) fun H6 e6 => qq H6 (F3.trans (Fm.of (e4.trans e6))) ?_
      have hd : dropD d i = { d with cs := d.cs.set i (cv d.cs i + -1) } := by
        unfold dropD
        by_cases h1 : cv d.cs i - 1 = 0
        · rw [if_pos h1]
          have hn : d.mem i = none := by
            rcases hM.v i with ⟨a, _⟩ | ⟨_, _, _, b, _⟩
            · exact a
            · rw [b, decide_eq_true h1] at hb
              cases hb
          have : setM d.mem i none = d.mem := funext fun x => by
            unfold setM
            split
            · rename_i e
              rw [e, hn]
            · rfl
          rw [this]
        · rw [if_neg h1]
      rw [hd]
      exact S3.ex (e4.trans e6)
end

end NT

set_option Elab.async false
set_option linter.all false
set_option maxRecDepth 100000
set_option maxHeartbeats 4000000
namespace NT
open PySem PySem.Spec PyProof.Rows L2 Evl LK LT LG LS LQ LX LO LN LP LH LV LZ LW StX LD
open ND (DK Dk St)
open NS (fr cv hv headV used In flds)
section
variable {P : Program} {w : World} {K : PySem.W.Frag} {mg : Str → Option Value} {base : Heap} {c : Cc} {CN CO CE Pw : Addr}
theorem ok_make {f fA fT fG : Addr} {fd fdA fdT fdG : FuncData} (F : Fun K "make" "Store.make" sMake f fd) (FAw : Fun K "are_words" "are_words" ND.sAre fA fdA) (GAw : FnOk P w K mg base CX0 1 fA fdA ["values", "many"] (ND.spAre Pw)) (bAw : Binds K fdA ["values", "many"] []) (gAw : mg "are_words" = some (.ref fA)) (GStake : FnOk P w K mg base (L2.CX P w) 6 fT fdT ["self", "reserve"] (NS.spTake c.S CE)) (bStake : Binds K fdT ["self", "reserve"] []) (mStake : Meth K c.S "take" fT)
    (Ggeneration : FnOk P w K mg base CX0 1 fG fdG ["self"] (spGen c)) (bgeneration : Binds K fdG ["self"] []) (mgeneration : Meth K c.T "generation" fG) (T : Txt mg) (TT : TxT mg K c.T) (TS : NS.Txt mg K c.S) (XN : Xc K mg "NotValid" CN) : FnOk P w K mg base (L2.CX P w) 7 f fd ["self", "words"] (spMake c CN CE Pw) := by
  obtain ⟨_, gBLOCK_WORDS⟩ := T.gBLOCK_WORDS
  refine F.okX scMake (fun vs H Q E h => ?_) (fun cdv A outer s H vs Q E hr h => ?_)
  · obtain ⟨G, q, k, d, u, xs, rfl, _⟩ := h
    rfl
  · obtain ⟨G, q, k, d, u, xs, rfl, S, hu, hk, hT, hr0, huc, qN, qE, qq⟩ := h
    refine ⟨_, (pss_cons (ps_if (pt_not (pt_val (pe_call GAw (hr.mono (by decide)) (by rfl) gAw FAw.kp bAw .nil pass0 (pa_cons (pv 1) (pa_cons (pe_glob (v := .int 32) rfl gBLOCK_WORDS ⟨_, rfl⟩) pa_nil))))) (pss_one (ps_raise0 rfl XN (takes_of rfl rfl rfl rfl) (by rfl))) pss_nil)
      (pss_cons (ps_set (i := 2) scMake.nd rfl (Or.inl rfl) (pe_meth (pe_fld (pv 0) rfl) TS.cl mStake GStake (hr.mono (by decide)) bStake .nil (pass_own (takes_of rfl rfl rfl rfl)) (pa_cons (pe_fld (pv 0) rfl) pa_nil)))
      (pss_cons (ps_dput (hu_of hr) (pe_fld (pv 0) rfl) (pv 2) (pe_callTy call_tuple_of (by rfl) T.tuple (by decide +kernel) (pa_cons (pv 1) pa_nil)) (by rfl))
      (pss_one (ps_ret (pe_tup (pa_cons (pv 2) (pa_cons (pe_meth0 (pv 0) TT.cl mgeneration Ggeneration (hr.mono (by decide)) bgeneration .nil pass0) pa_nil)))))))), ?_⟩
    obtain ⟨dx, ho⟩ := S.o
    obtain ⟨ds, hs⟩ := st_spu S
    refine q_when (et_not (et_B (ev_call (vs := [.ref u, .int 32]) (ea_cons (ev_var rfl) (ea_cons ev_c ea_nil)) (fun H1 e1 Q' q' E' => ⟨hT.mono e1, u, xs, 32, rfl, e1 _ _ hu, fun x hx => let ⟨n, h⟩ := hk x hx; ⟨n, h.mono e1⟩, q'⟩)))) (fun hb H1 e1 => ?_) (fun hb H1 e1 => ?_)
    · refine qN (fun h => ?_) H1 e1
      rw [wd_okB.mpr h] at hb
      cases hb
    have hok : okB xs := wd_okB.mp (by
      cases hx : (decide ((xs.length : Int) = 32) && xs.all ND.wd) with
      | true => rfl
      | false =>
        rw [hx] at hb
        cases hb)
    obtain ⟨ws, hws, hl32, hnn⟩ := id hok
    refine q_mA (ev_fld (ev_var rfl) (e1 _ _ ho) TT.cl TT.ns t_s) (e1 _ _ hs) (sno (.inr (.inr (.inl rfl)))) (ea_cons (ev_fld (ev_var rfl) (e1 _ _ ho) TT.cl TT.nr t_r) ea_nil) fun H2 e2 => ⟨k.sp, k.cl, k.hl, d.cs, k.hs, d.r, rfl, (S.ex (e1.trans e2)).sp, hr0, fun hle H3 e3 => qE hok hle H3 ((e1.trans e2).trans e3), fun hlt i H3 H4 hv hi e3 e4 => ?_⟩
    have e03 := (e1.trans e2).trans e3
    have hin : i < k.n := by rw [← S.lc]; exact hi
    have S4 := S.setC (by rw [List.length_set]) e03 e4
    have F4 : Fm H H4 q k := Fm.cl e03 e4
    obtain ⟨dx4, ho4⟩ := S4.o
    obtain ⟨kvs, hm, hM⟩ := S4.mm
    have hu4 : H4 u = some (.lst xs) := e4 _ _ (by rw [upd_ne huc]; exact e03 _ _ hu)
    refine q_dputU (eu_tupV (ev_var rfl) hu4) (ev_fld (ev_var rfl) ho4 TT.cl TT.nm t_m) (ev_var rfl) hm (by have := hM.len; have := S.dk.n1; omega) fun t5 H5 ht5 e5 h5 => ?_
    obtain ⟨G5, J5, S5, new5⟩ := S4.join e5
    obtain ⟨kvs5, hm5, hM5⟩ := S5.mm
    have hkv : kvs5 = kvs := by
      rw [e5 _ _ hm] at hm5
      exact (HO.dK.inj (Option.some.inj hm5)).symm
    rw [hkv] at hM5 hm5
    have S6 := S5.setM (hM5.put (ws := ws) hin (new5 _ _ ht5 (by rw [h5, hws]))) (Ex.refl _)
    have F6 : Fm H (upd H5 k.m (.dK (putK kvs (.inl (i : Int)) (.ref t5)))) q k := F4.trans (Fm.mm e5)
    have A6 : St G H G5 (upd H5 k.m (.dK (putK kvs (.inl (i : Int)) (.ref t5)))) := ⟨J5.g, fun a ha g => J5.n a (al_of F4 S4 a ha) g, al_of F6 S6⟩
    generalize upd H5 k.m (.dK (putK kvs (.inl (i : Int)) (.ref t5))) = H6 at *
    obtain ⟨dx6, ho6⟩ := S6.o
    refine s_retU (eu_tup (ea_cons (ev_var rfl) (ea_cons (ev_meth0 (ev_var rfl) ho6 (tno (.inl rfl)) (sv_gen S6)) ea_nil)) (Nat.le_of_ble_eq_true rfl)) fun t H7 ht e7 h7 => ?_
    obtain ⟨G7, J7, S7, new7⟩ := S6.join e7
    exact qq ws i hws hl32 hnn hlt hv hin G7 H7 t (A6.trans J7) (F6.trans (Fm.of e7)) S7 (Classical.byContradiction fun h => al_of F6 S6 t h ht) (new7 _ _ ht h7)
theorem ok_swrite {f fA fN : Addr} {fd fdA fdN : FuncData} (F : Fun K "write" "Store.write" sWrite f fd) (FAw : Fun K "are_words" "are_words" ND.sAre fA fdA) (GAw : FnOk P w K mg base CX0 1 fA fdA ["values", "many"] (ND.spAre Pw)) (bAw : Binds K fdA ["values", "many"] []) (gAw : mg "are_words" = some (.ref fA)) (Gis_new : FnOk P w K mg base (L2.CX P w) 5 fN fdN ["self", "pointer"] (spNew c CN)) (bis_new : Binds K fdN ["self", "pointer"] []) (mis_new : Meth K c.T "is_new" fN) (T : Txt mg) (TT : TxT mg K c.T) (XN : Xc K mg "NotValid" CN) : FnOk P w K mg base (L2.CX P w) 6 f fd ["self", "pointer", "words"] (spWrite c CN Pw) := by
  obtain ⟨_, gBLOCK_WORDS⟩ := T.gBLOCK_WORDS
  refine F.okX scWrite (fun vs H Q E h => ?_) (fun cdv A outer s H vs Q E hr h => ?_)
  · obtain ⟨G, q, k, d, t, z, ys, u, xs, rfl, _⟩ := h
    rfl
  · obtain ⟨G, q, k, d, t, z, ys, u, xs, rfl, S, ht, hu, hk, hT, qN, qq⟩ := h
    refine ⟨_, (pss_cons (ps_if (PW.pt (pw_or (pt_not (pt_val (pe_meth (pv 0) TT.cl mis_new Gis_new (hr.mono (by decide)) bis_new .nil (pass_own (takes_of rfl rfl rfl rfl)) (pa_cons (pv 1) pa_nil)))) (pw_or1 (pt_not (pt_val (pe_call GAw (hr.mono (by decide)) (by rfl) gAw FAw.kp bAw .nil pass0 (pa_cons (pv 2) (pa_cons (pe_glob (v := .int 32) rfl gBLOCK_WORDS ⟨_, rfl⟩) pa_nil)))))))) (pss_one (ps_raise0 rfl XN (takes_of rfl rfl rfl rfl) (by rfl))) pss_nil)
      (pss_one (ps_dput (hu_of hr) (pe_fld (pv 0) rfl) (pe_ix ix_tup (pv 1) pe_int (fun _ _ => rfl)) (pe_callTy call_tuple_of (by rfl) T.tuple (by decide +kernel) (pa_cons (pv 2) pa_nil)) (by rfl)))), ?_⟩
    obtain ⟨dx, ho⟩ := S.o
    by_cases hz : 0 ≤ z ∧ z < k.n
    · obtain ⟨i, rfl⟩ := Int.eq_ofNat_of_zero_le hz.1
      have hi : i < k.n := by omega
      refine q_when (et_or (et_not (et_B (ev_meth (z := .bl (newB k d i)) (ev_var rfl) ho (tno (.inr (.inr (.inr (.inl rfl))))) (ea_cons (ev_var rfl) ea_nil) (fun H1 e1 Q' q' E' => ⟨G, q, k, d, t, (i : Int), ys, rfl, S.ex e1, e1 _ _ ht, fun j hj hjn => by
        have : i = j := by omega
        subst this
        exact q', fun hn => absurd hz hn⟩)))) (fun _ => et_not (et_B (ev_call (vs := [.ref u, .int 32]) (ea_cons (ev_var rfl) (ea_cons ev_c ea_nil)) (fun H1 e1 Q' q' E' => ⟨hT.mono e1, u, xs, 32, rfl, e1 _ _ hu, fun x hx => let ⟨n, h⟩ := hk x hx; ⟨n, h.mono e1⟩, q'⟩))))) (fun hb H1 e1 => ?_) (fun hb H1 e1 => ?_)
      · refine qN (fun h => ?_) H1 e1
        have h3 := h.2.2.1
        rw [Int.toNat_natCast] at h3
        rw [h3, wd_okB.mpr h.2.2.2] at hb
        cases hb
      have hb2 : newB k d i = true ∧ (decide ((xs.length : Int) = 32) && xs.all ND.wd) = true := by
        cases h1 : newB k d i with
        | false =>
          rw [h1] at hb
          cases hb
        | true =>
          refine ⟨rfl, ?_⟩
          cases h2 : (decide ((xs.length : Int) = 32) && xs.all ND.wd) with
          | true => rfl
          | false =>
            rw [h1, h2] at hb
            cases hb
      obtain ⟨ws, hws, hl32, hnn⟩ := wd_okB.mp hb2.2
      obtain ⟨kvs, hm, hM⟩ := S.mm
      refine s_dputU (eu_tupV (ev_var rfl) (e1 _ _ hu)) (ev_fld (ev_var rfl) (e1 _ _ ho) TT.cl TT.nm t_m) (ev_op (ev_var rfl) ev_c (rv_ixT (st_of (e1 _ _ ht)) (v := .int (i : Int)) (atI_nat (j := 0) rfl))) (e1 _ _ hm) (by have := hM.len; have := S.dk.n1; omega) fun t5 H5 ht5 e5 h5 => ?_
      obtain ⟨G5, J5, S5, new5⟩ := S.join (e1.trans e5)
      obtain ⟨kvs5, hm5, hM5⟩ := S5.mm
      have hkv : kvs5 = kvs := by
        rw [(e1.trans e5) _ _ hm] at hm5
        exact (HO.dK.inj (Option.some.inj hm5)).symm
      rw [hkv] at hM5 hm5
      have S6 := S5.setM (hM5.put (ws := ws) hi (new5 _ _ (fresh_back e1 ht5) (by rw [h5, hws]))) (Ex.refl _)
      have F6 : Fm H (upd H5 k.m (.dK (putK kvs (.inl (i : Int)) (.ref t5)))) q k := Fm.mm (e1.trans e5)
      exact qq ws i hws hl32 hnn rfl hi hb2.1 G5 _ ⟨J5.g, J5.n, al_of F6 S6⟩ F6 S6
    · show tMeth c.T "is_new" (spNew c CN) [] _ (tVar 0) (tCons (tVar 1) tNil) _ H _
      exact m_run (ev_var rfl) ho (tno (.inr (.inr (.inr (.inl rfl))))) (ea_cons (ev_var rfl) ea_nil) fun H1 e1 => ⟨G, q, k, d, t, z, ys, rfl, S.ex e1, e1 _ _ ht, fun i hi hlt => absurd ⟨by omega, by omega⟩ hz, fun hn H2 e2 => qN (fun h => hz ⟨h.1, h.2.1⟩) H2 (e1.trans e2)⟩
theorem memL_sorted (k : Sk) (d : Sd) : ((memL k d).map fun i : Nat => (i : Int)).Pairwise (· ≤ ·) := by
  rw [List.pairwise_map]
  refine (List.Pairwise.filter _ (List.pairwise_lt_range (n := k.n))).imp fun h => ?_
  omega
theorem ok_nb {f : Addr} {fd : FuncData} (F : Fun K "new_blocks" "Store.new_blocks" sNb f fd) (T : Txt mg) (TT : TxT mg K c.T) : FnOk P w K mg base CX0 1 f fd ["self"] (spNb c) := by
  refine F.ok scNb (fun vs H Q E h => ?_) (fun cdv A outer s H vs Q E hr h => ?_)
  · obtain ⟨G, q, k, d, rfl, _⟩ := h
    rfl
  · obtain ⟨G, q, k, d, rfl, S, h64, qq⟩ := h
    refine ⟨_, (pss_one (ps_ret (pe_callB (call_sortedDI rfl) (by rfl) T.sorted (by decide +kernel) (pa_cons (pe_fld (pv 0) rfl) pa_nil)))), ?_⟩
    obtain ⟨dx, ho⟩ := S.o
    obtain ⟨kvs, hm, hM⟩ := S.mm
    obtain ⟨ks, k1, k2, k3⟩ := hM.ks
    have hp : ks.Perm (memL k d) := (List.perm_ext_iff_of_nodup k2 (List.Pairwise.filter _ List.nodup_range)).mpr fun a => by
      rw [k3]
      rw [List.mem_filter, List.mem_range, Option.isSome_iff_ne_none]
    refine s_retL (el_is (el_sortedD (ks := ks.map fun i : Nat => (i : Int)) (ns := (memL k d).map fun i : Nat => (i : Int)) (ev_fld (ev_var rfl) ho TT.cl TT.nm t_m) hm (by rw [k1, List.map_map]; rfl) (by rw [List.length_map, hp.length_eq]; exact h64) (fun ys p1 p2 => sorted_uni (p1.trans (hp.map _)) p2 (memL_sorted k d))) (by rw [List.map_map]; rfl)) qq
end

end NT

set_option Elab.async false
set_option linter.all false
set_option maxRecDepth 100000
set_option maxHeartbeats 4000000
namespace NT
open PySem PySem.Spec PyProof.Rows L2 Evl LK LT LG LS LQ LX LO LN LP LH LV LZ LW StX LD
open ND (DK Dk St)
open NS (fr cv hv headV used In flds)
/-! ### the makers -/
structure SP (c : Cc) (G H : Hp) (q : Addr) (k : Sk) (cs : List Int) : Prop where
  dk : DK c.D G H k.dp k.ka k.sa k.wa k.n ⟨k.f, [], true, none⟩
  gq : G q = none
  h : ∃ dx, G k.hp = some (.ins c.H dx (hfl k.g k.tb k.n))
  s : ∃ dx, G k.sp = some (.ins c.S dx (flds k.n k.cl k.hl))
  c : H k.cl = some (.lst (cs.map V.int))
  gc : G k.cl = none
  hh : G k.hl = some (.lst (k.hs.map V.bl))
  lc : cs.length = k.n
  lh : k.hs.length = k.n
  q1 : q ≠ k.dp ∧ q ≠ k.ka ∧ q ≠ k.sa ∧ q ≠ k.wa
  c1 : k.cl ≠ k.dp ∧ k.cl ≠ k.ka ∧ k.cl ≠ k.sa ∧ k.cl ≠ k.wa
  qc : q ≠ k.cl
  e : k.th = k.tb
def spHin (c : Cc) : Sp := fun vs H Q _ => ∃ (p tb dx : Addr) (g n : Int), vs = [.ref p, .int g, .ref tb, .int n] ∧ H p = some (.ins c.H dx []) ∧ ∀ H1, Bx p H H1 → H1 p = some (.ins c.H dx (hfl g tb n)) → Q .non H1
def spTin (c : Cc) : Sp := fun vs H Q _ => ∃ (G : Hp) (q dx : Addr) (k : Sk) (cs : List Int), vs = [.ref q, .ref k.dp, .ref k.hp, .ref k.sp] ∧ H q = some (.ins c.T dx []) ∧ SP c G H q k cs ∧ ∀ m H1, (∀ a o, H a = some o → a ≠ q → H1 a = some o) → ST c G H1 q { k with m := m } ⟨60, cs, fun _ => none⟩ → Q .non H1
theorem ir_ne {row : List Int} {ks : List Addr} (h : 0 < row.length) : HO.lst (row.map V.int) ≠ HO.lst (ks.map V.ref) := fun z => by
  match row, h, ks with
  | x :: r, _, [] => cases z
  | x :: r, _, k :: ks => cases z
section
variable {P : Program} {w : World} {K : PySem.W.Frag} {mg : Str → Option Value} {base : Heap} {c : Cc} {CN CO CE Pw : Addr}
theorem ok_hin {f : Addr} {fd : FuncData} (F : Fun K "__init__" "Head.__init__" sHin f fd) (TH : TxH mg K c.H) : FnOk P w K mg base CX0 1 f fd ["self", "generation", "table", "blocks"] (spHin c) := by
  refine F.ok scHin (fun vs H Q E h => ?_) (fun cdv A outer s H vs Q E hr h => ?_)
  · obtain ⟨p, tb, dx, g, n, rfl, _⟩ := h
    rfl
  · obtain ⟨p, tb, dx, g, n, rfl, ho, q⟩ := h
    refine ⟨_, (pss_cons (ps_fld (pv 0) (pv 1) rfl)
      (pss_cons (ps_fld (pv 0) (pv 2) rfl)
      (pss_one (ps_fld (pv 0) (pv 3) rfl)))), ?_⟩
    refine q_fld (ev_var rfl) (ev_var rfl) ho TH.cl TH.ng (by show 0 < 1000; decide) fun H1 e1 => ?_
    refine q_fld (ev_var rfl) (ev_var rfl) upd_same TH.cl TH.nt (by show 1 < 1000; decide) fun H2 e2 => ?_
    refine s_fld (ev_var rfl) (ev_var rfl) upd_same TH.cl TH.nb (by show 2 < 1000; decide) fun H3 e3 => ?_
    exact q _ (((Bx.of e1).up.trans (Bx.of e2)).up.trans (Bx.of e3)).up upd_same
theorem ok_tin {f : Addr} {fd : FuncData} (F : Fun K "__init__" "Store.__init__" sInit f fd) (T : Txt mg) (TT : TxT mg K c.T) (TH : TxH mg K c.H) : FnOk P w K mg base CX0 1 f fd ["self", "disk", "head", "space"] (spTin c) := by
  obtain ⟨_, gADD⟩ := T.gADD
  refine F.ok scInit (fun vs H Q E h => ?_) (fun cdv A outer s H vs Q E hr h => ?_)
  · obtain ⟨G, q, dx, k, cs, rfl, _⟩ := h
    rfl
  · obtain ⟨G, q, dx, k, cs, rfl, ho, S, qq⟩ := h
    refine ⟨_, (pss_cons (ps_fld (pv 0) (pv 1) rfl)
      (pss_cons (ps_fld (pv 0) (pv 2) rfl)
      (pss_cons (ps_fld (pv 0) (pv 3) rfl)
      (pss_cons (ps_fld (pv 0) (pe_fld (pv 2) rfl) rfl)
      (pss_cons (ps_fld (pv 0) (pe_glob (v := .int 60) rfl gADD ⟨_, rfl⟩) rfl)
      (pss_one (ps_fld (pv 0) pe_dnewK rfl))))))), ?_⟩
    obtain ⟨dh, hh⟩ := S.h
    have hh0 := S.dk.g _ _ hh
    have hpq : k.hp ≠ q := fun z => by rw [z, S.gq] at hh; cases hh
    have U : ∀ {A B : Hp} {o : HO}, (∀ a u, H a = some u → a ≠ q → A a = some u) → Ex A B → ∀ a u, H a = some u → a ≠ q → (upd B q o) a = some u := fun h e a u ha hn => by
      rw [upd_ne hn]
      exact e _ _ (h a u ha hn)
    refine q_fld (ev_var rfl) (ev_var rfl) ho TT.cl TT.nd (by show 0 < 1000; decide) fun H1 e1 => ?_
    have u1 := U (o := .ins c.T dx (putF "disk" (.ref k.dp) [])) (fun a u h _ => h) e1
    refine q_fld (ev_var rfl) (ev_var rfl) upd_same TT.cl TT.nh (by show 1 < 1000; decide) fun H2 e2 => ?_
    have u2 := U (o := .ins c.T dx (putF "head" (.ref k.hp) (putF "disk" (.ref k.dp) []))) u1 e2
    refine q_fld (ev_var rfl) (ev_var rfl) upd_same TT.cl TT.ns (by show 2 < 1000; decide) fun H3 e3 => ?_
    have u3 := U (o := .ins c.T dx (putF "space" (.ref k.sp) (putF "head" (.ref k.hp) (putF "disk" (.ref k.dp) [])))) u2 e3
    refine q_fld (ev_fld (ev_var rfl) (u3 _ _ hh0 hpq) TH.cl TH.nt rfl) (ev_var rfl) upd_same TT.cl TT.nt (by show 3 < 1000; decide) fun H4 e4 => ?_
    have u4 := U (o := .ins c.T dx (putF "table" (.ref k.tb) (putF "space" (.ref k.sp) (putF "head" (.ref k.hp) (putF "disk" (.ref k.dp) []))))) u3 e4
    refine q_fld ev_c (ev_var rfl) upd_same TT.cl TT.nr (by show 4 < 1000; decide) fun H5 e5 => ?_
    have u5 := U (o := .ins c.T dx (putF "reserve" (.int 60) (putF "table" (.ref k.tb) (putF "space" (.ref k.sp) (putF "head" (.ref k.hp) (putF "disk" (.ref k.dp) [])))))) u4 e5
    have o5 : (upd H5 q (.ins c.T dx (putF "reserve" (.int 60) (putF "table" (.ref k.tb) (putF "space" (.ref k.sp) (putF "head" (.ref k.hp) (putF "disk" (.ref k.dp) []))))))) q = some (.ins c.T dx (putF "reserve" (.int 60) (putF "table" (.ref k.tb) (putF "space" (.ref k.sp) (putF "head" (.ref k.hp) (putF "disk" (.ref k.dp) [])))))) := upd_same
    generalize upd H5 q (.ins c.T dx (putF "reserve" (.int 60) (putF "table" (.ref k.tb) (putF "space" (.ref k.sp) (putF "head" (.ref k.hp) (putF "disk" (.ref k.dp) [])))))) = H6 at u5 o5
    refine fun m hm => ?_
    have eN := Ex.new (o := .dK []) hm
    have hmm : (upd H6 m (.dK [])) m = some (.dK []) := upd_same
    have mq : m ≠ q := fun z => by rw [z, o5] at hm; cases hm
    have o7 := eN _ _ o5
    refine ⟨_, rfl, q, c.T, dx, _, rfl, o7, TT.cl, TT.nm, by show 5 < 1000; decide, ?_⟩
    have u7 := U (o := .ins c.T dx (sfl k.dp k.hp k.sp k.tb 60 m)) u5 eN
    have m7 : (upd (upd H6 m (.dK [])) q (.ins c.T dx (sfl k.dp k.hp k.sp k.tb 60 m))) m = some (.dK []) := by rw [upd_ne mq]; exact hmm
    have q7 : (upd (upd H6 m (.dK [])) q (.ins c.T dx (sfl k.dp k.hp k.sp k.tb 60 m))) q = some (.ins c.T dx (sfl k.dp k.hp k.sp k.tb 60 m)) := upd_same
    show Q .non (upd (upd H6 m (.dK [])) q (.ins c.T dx (sfl k.dp k.hp k.sp k.tb 60 m)))
    generalize upd (upd H6 m (.dK [])) q (.ins c.T dx (sfl k.dp k.hp k.sp k.tb 60 m)) = H7 at u7 m7 q7
    have fr : ∀ a, a ≠ q → H6 a = none → H a = none := fun a n h => by
      cases hx : H a with
      | none => rfl
      | some o =>
        rw [u5 a o hx n] at h
        cases h
    have m0 : H m = none := fr m mq hm
    obtain ⟨a1, a2, a3, a4⟩ := S.dk.al
    have hc := S.c
    have b7 : Bx q H H7 := fun a o n h => u7 a o h n
    refine qq m H7 (fun a o h n => u7 a o h n) ⟨dk_bx S.dk S.gq S.q1 b7, ⟨dx, q7⟩, S.gq, (by rw [show ({ k with m := m } : Sk).th = k.tb from S.e]; exact S.h), S.s, u7 _ _ S.c S.qc.symm, S.gc, S.hh, S.lc, S.lh, ⟨[], m7, fun i => .inl ⟨rfl, rfl⟩, [], rfl, List.nodup_nil, fun i => ⟨fun h => (by cases h), fun h => absurd rfl h.2⟩⟩, fresh_back S.dk.g m0, S.q1, S.c1, ⟨fun z => a1 (by rw [← z]; exact m0), fun z => a2 (by rw [← z]; exact m0), fun z => a3 (by rw [← z]; exact m0), fun z => a4 (by rw [← z]; exact m0)⟩, S.qc, mq.symm, fun z => by
      have z' : k.cl = m := z
      rw [← z', hc] at m0
      cases m0⟩
end
/-! ### between two turns of the law -/
theorem nodup_sub {l m : List Nat} (hl : l.Nodup) (hm : m.Nodup) (h : ∀ x ∈ l, x ∈ m) : l.length ≤ m.length := by
  have hp : l.Perm (m.filter fun x => decide (x ∈ l)) := (List.perm_ext_iff_of_nodup hl (List.Pairwise.filter _ hm)).mpr fun a => by
    rw [List.mem_filter, decide_eq_true_eq]
    exact ⟨fun ha => ⟨h a ha, ha⟩, fun ha => ha.2⟩
  rw [hp.length_eq]
  exact List.length_filter_le _ _
theorem memL_nodup (k : Sk) (d : Sd) : (memL k d).Nodup := List.Pairwise.filter _ List.nodup_range
theorem memL_mem {k : Sk} {d : Sd} {i : Nat} : i ∈ memL k d ↔ i < k.n ∧ d.mem i ≠ none := by
  unfold memL
  rw [List.mem_filter, List.mem_range, Option.isSome_iff_ne_none]
theorem memL_put {k : Sk} {d d' : Sd} {i : Nat} {o : Option (List Int)} (h : d'.mem = setM d.mem i o) : (memL k d').length ≤ (memL k d).length + 1 := by
  have hs : ∀ x ∈ memL k d', x = i ∨ x ∈ memL k d := fun x hx => by
    have hx := memL_mem.mp hx
    rw [h] at hx
    unfold setM at hx
    by_cases e : x = i
    · exact .inl e
    · rw [if_neg e] at hx
      exact .inr (memL_mem.mpr hx)
  by_cases hi : i ∈ memL k d
  · have := nodup_sub (memL_nodup k d') (memL_nodup k d) fun x hx => (hs x hx).elim (fun e => e ▸ hi) id
    omega
  · have := nodup_sub (memL_nodup k d') (m := i :: memL k d) (List.nodup_cons.mpr ⟨hi, memL_nodup k d⟩) fun x hx => (hs x hx).elim (fun e => e ▸ List.mem_cons_self) (List.mem_cons_of_mem _)
    exact this
theorem memL_same {k : Sk} {d d' : Sd} {i : Nat} (h : d'.mem = setM d.mem i none ∨ d'.mem = d.mem) : (memL k d').length ≤ (memL k d).length := nodup_sub (memL_nodup k d') (memL_nodup k d) fun x hx => by
  have hx := memL_mem.mp hx
  rcases h with h | h
  · rw [h] at hx
    unfold setM at hx
    by_cases e : x = i
    · rw [if_pos e] at hx
      exact absurd rfl hx.2
    · rw [if_neg e] at hx
      exact memL_mem.mpr hx
  · rw [h] at hx
    exact memL_mem.mpr hx
theorem ST.upd {c : Cc} {G H H1 : Hp} {q x : Addr} {k : Sk} {d : Sd} (s : ST c G H q k d) (gx : G x = none) (nq : x ≠ q) (nc : x ≠ k.cl) (nm : x ≠ k.m) (nd : x ≠ k.dp ∧ x ≠ k.ka ∧ x ≠ k.sa ∧ x ≠ k.wa) (b : Bx x H H1) : ST c G H1 q k d :=
  ⟨dk_bx s.dk gx nd b, let ⟨dx, h⟩ := s.o; ⟨dx, b _ _ nq.symm h⟩, s.gq, s.h, s.s, b _ _ nc.symm s.c, s.gc, s.hh, s.lc, s.lh, let ⟨kvs, h, m⟩ := s.mm; ⟨kvs, b _ _ nm.symm h, m⟩, s.gm, s.q1, s.c1, s.m1, s.qc, s.qm, s.cm⟩
theorem ints_ne {c : Cc} {G H : Hp} {q x : Addr} {k : Sk} {d : Sd} {ws : List Int} (s : ST c G H q k d) (hx : H x = some (.lst (ws.map V.int))) (hl : 0 < ws.length) : x ≠ q ∧ x ≠ k.m ∧ x ≠ k.dp ∧ x ≠ k.ka ∧ x ≠ k.sa ∧ x ≠ k.wa := by
  obtain ⟨dx, ho⟩ := s.o
  obtain ⟨kvs, hm, _⟩ := s.mm
  obtain ⟨dd, hd⟩ := s.dk.o
  obtain ⟨ks, hk, _⟩ := s.dk.k
  obtain ⟨ss, hs, _⟩ := s.dk.s
  obtain ⟨ts, hw, _⟩ := s.dk.w
  exact ⟨ne_of hx ho (by intro z; cases z), ne_of hx hm (by intro z; cases z), ne_of hx hd (by intro z; cases z), ne_of hx hk (ir_ne hl), ne_of hx hs (ir_ne hl), ne_of hx hw (ir_ne hl)⟩
theorem dict_ne {c : Cc} {G H : Hp} {q x : Addr} {k : Sk} {d : Sd} {kvs : List (Key × V)} (s : ST c G H q k d) (hx : H x = some (.dK kvs)) : x ≠ q ∧ x ≠ k.cl ∧ x ≠ k.dp ∧ x ≠ k.ka ∧ x ≠ k.sa ∧ x ≠ k.wa := by
  obtain ⟨dx, ho⟩ := s.o
  obtain ⟨dd, hd⟩ := s.dk.o
  obtain ⟨ks, hk, _⟩ := s.dk.k
  obtain ⟨ss, hs, _⟩ := s.dk.s
  obtain ⟨ts, hw, _⟩ := s.dk.w
  exact ⟨ne_of hx ho (by intro z; cases z), ne_of hx s.c (by intro z; cases z), ne_of hx hd (by intro z; cases z), ne_of hx hk (by intro z; cases z), ne_of hx hs (by intro z; cases z), ne_of hx hw (by intro z; cases z)⟩
theorem upd_ST {c : Cc} {G H : Hp} {q x : Addr} {k : Sk} {d : Sd} {o : HO} (s : ST c G H q k d) (gx : G x = none) (nq : x ≠ q) (nc : x ≠ k.cl) (nm : x ≠ k.m) (nd : x ≠ k.dp ∧ x ≠ k.ka ∧ x ≠ k.sa ∧ x ≠ k.wa) : ST c G (L2.upd H x o) q k d := s.upd gx nq nc nm nd (Bx.of (Ex.refl _)).up
end NT

set_option Elab.async false
set_option linter.all false
set_option maxRecDepth 100000
set_option maxHeartbeats 4000000
namespace NS
open PySem PySem.Spec PyProof.Rows L2 Evl LK LT LG LS LQ LX LO
abbrev sSaved : Stmt := inClass (top 36) 12
theorem scSaved : FnScope ["self"] ["self"] (defScope sSaved) := ⟨rfl, rfl, rfl, by decide +kernel, rfl, by decide +kernel, by decide +kernel⟩
abbrev sRest : Stmt := inClass (top 36) 13
theorem scRest : FnScope ["self", "saved"] ["self", "saved"] (defScope sRest) := ⟨rfl, rfl, rfl, by decide +kernel, rfl, by decide +kernel, by decide +kernel⟩
section
variable {P : Program} {w : World} {K : PySem.W.Frag} {mg : Str → Option Value} {base : Heap} {C CN CS : Addr}
end
end NS

set_option Elab.async false
set_option linter.all false
set_option maxRecDepth 100000
set_option maxHeartbeats 4000000
namespace NT
open PySem PySem.Spec PyProof.Rows L2 Evl LK LT LG LS LQ LX LO LN LP LH LV LZ LW StX LD
open ND (DK Dk St)
open NS (fr cv hv headV used In flds)
abbrev sSvd : Stmt := inClass (top 38) 16
theorem scSvd : FnScope ["self"] ["self"] (defScope sSvd) := ⟨rfl, rfl, rfl, by decide +kernel, rfl, by decide +kernel, by decide +kernel⟩
abbrev sRst : Stmt := inClass (top 38) 17
theorem scRst : FnScope ["self", "saved"] ["self", "saved"] (defScope sRst) := ⟨rfl, rfl, rfl, by decide +kernel, rfl, by decide +kernel, by decide +kernel⟩
abbrev sUt : Stmt := inClass (top 38) 1
theorem scUt : FnScope ["self", "pointer"] ["self", "pointer"] (defScope sUt) := ⟨rfl, rfl, rfl, by decide +kernel, rfl, by decide +kernel, by decide +kernel⟩
/-! ### saved, restore -/
def spSvd (c : Cc) : Sp := fun vs H Q _ => ∃ G q k d, vs = [.ref q] ∧ ST c G H q k d ∧ ∀ (t s ct ht m0 : Addr) (kvs : List (Key × V)) (H1 : Hp), H t = none → H m0 = none → Ex H H1 → H1 t = some (.tup [.ref s, .ref m0, .ref k.tb]) → H1 s = some (.tup [.ref ct, .ref ht]) → H1 ct = some (.tup (d.cs.map V.int)) → H1 ht = some (.tup (k.hs.map V.bl)) → H1 m0 = some (.dK kvs) → Mem G k.n kvs d.mem → Q (.ref t) H1
/-- what was frozen and is no instance stays so; the space alone changes -/
structure Rs (H : Hp) (q : Addr) (k : Sk) (G G' H' : Hp) : Prop where
  g : ∀ a o, G a = some o → a ≠ k.sp → G' a = some o
  n : ∀ a, H a ≠ none → G a = none → G' a = none
  h : ∀ a o, H a = some o → a ≠ q → a ≠ k.sp → H' a = some o
def spRst (c : Cc) : Sp := fun vs H Q _ => ∃ G q k d t s ct ht m0 kvs cs0 mem0 tb0, vs = [.ref q, .ref t] ∧ ST c G H q k d ∧ H t = some (.tup [.ref s, .ref m0, .ref tb0]) ∧ H s = some (.tup [.ref ct, .ref ht]) ∧ H ct = some (.tup ((cs0 : List Int).map V.int)) ∧ H ht = some (.tup (k.hs.map V.bl)) ∧ H m0 = some (.dK kvs) ∧ Mem G k.n kvs mem0 ∧ cs0.length = k.n ∧
  ∀ (G' H' : Hp) (k' : Sk), ST c G' H' q k' ⟨d.r, cs0, mem0⟩ → Rs H q k G G' H' → (∃ cl hl m, k' = { k with cl := cl, hl := hl, m := m, tb := tb0 } ∧ H cl = none ∧ H hl = none ∧ H m = none) → Q .non H'
theorem Mem.nt {G G' : Hp} {n : Nat} {kvs : List (Key × V)} {mem : Nat → Option (List Int)} (h : Mem G n kvs mem) (e : ∀ a xs, G a = some (.tup xs) → G' a = some (.tup xs)) : Mem G' n kvs mem := ⟨fun k => (h.v k).imp id fun ⟨ws, t, a, b, c⟩ => ⟨ws, t, a, b, e _ _ c⟩, h.ks⟩
section
variable {c : Cc} {G H H' : Hp} {q : Addr} {k : Sk} {d : Sd}
theorem hp_sp (S : ST c G H q k d) : k.hp ≠ k.sp := fun z => by
  obtain ⟨dh, h1⟩ := S.h
  obtain ⟨ds, h2⟩ := S.s
  rw [z, h2] at h1
  have h3 := Option.some.inj h1
  injection h3 with _ _ h4
  unfold flds hfl at h4
  injection h4 with h5 _
  injection h5 with h6 _
  exact absurd h6 (by decide)
/-- the space has new lists, the store a new memory -/
theorem ST.rest (S : ST c G H q k d) {cl hl m : Addr} {cs0 : List Int} {hs0 : List Bool} {kvs : List (Key × V)} {mem0 : Nat → Option (List Int)} {ds dq tb0 : Addr} (hk : ∀ a o, H a = some o → a ≠ q → a ≠ k.sp → H' a = some o) (c0 : H cl = none) (h0 : H hl = none) (m0 : H m = none) (ch : cl ≠ hl) (cm : cl ≠ m) (hm : hl ≠ m)
    (hsp : H' k.sp = some (.ins c.S ds (flds k.n cl hl))) (hq : H' q = some (.ins c.T dq (sfl k.dp k.hp k.sp tb0 d.r m))) (hcl : H' cl = some (.lst (cs0.map V.int))) (hhl : H' hl = some (.lst (hs0.map V.bl))) (hmm : H' m = some (.dK kvs)) (lc : cs0.length = k.n) (lh : hs0.length = k.n) (M : Mem G k.n kvs mem0) :
    ∃ G', ST c G' H' q { k with cl := cl, hl := hl, m := m, hs := hs0, tb := tb0 } ⟨d.r, cs0, mem0⟩ ∧ Rs H q k G G' H' := by
  obtain ⟨dh, gh⟩ := S.h
  obtain ⟨ds0, gs⟩ := S.s
  have D := S.dk
  have ge : ∀ {a : Addr} {o : HO}, G a = some o → H a = some o := fun h => D.g _ _ h
  have hsp0 := ge gs
  have nsp : ∀ {a : Addr}, G a = none → a ≠ k.sp := fun h z => by rw [z, gs] at h; cases h
  have nhl : ∀ {a : Addr} {o : HO}, H a = some o → a ≠ hl := fun h z => by rw [z, h0] at h; cases h
  have ncl : ∀ {a : Addr} {o : HO}, H a = some o → a ≠ cl := fun h z => by rw [z, c0] at h; cases h
  have nm : ∀ {a : Addr} {o : HO}, H a = some o → a ≠ m := fun h z => by rw [z, m0] at h; cases h
  have sph : k.sp ≠ hl := nhl hsp0
  let G' : Hp := fun a => if a = k.sp then H' k.sp else if a = hl then H' hl else G a
  have g1 : G' k.sp = H' k.sp := if_pos rfl
  have g2 : G' hl = H' hl := by
    show (if hl = k.sp then _ else _) = _
    rw [if_neg sph.symm, if_pos rfl]
  have g3 : ∀ {a : Addr}, a ≠ k.sp → a ≠ hl → G' a = G a := fun {a} h1 h2 => by
    show (if a = k.sp then _ else _) = _
    rw [if_neg h1, if_neg h2]
  have gG : ∀ {a : Addr} {o : HO}, G a = some o → a ≠ k.sp → G' a = some o := fun h n => by
    rw [g3 n (nhl (ge h))]
    exact h
  have gI : ∀ {a : Addr} {o : HO}, G a = some o → (∀ C dx fs, o ≠ .ins C dx fs) → G' a = some o := fun h n => gG h fun z => by
    rw [z, gs] at h
    exact n _ _ _ (Option.some.inj h).symm
  have gN : ∀ {a : Addr} {o : HO}, H a = some o → G a = none → G' a = none := fun h n => by
    rw [g3 (nsp n) (nhl h)]
    exact n
  obtain ⟨dx, ho⟩ := D.o
  obtain ⟨kl, hka, hkl, hks⟩ := D.k
  obtain ⟨sl, hsa, hsl, hss⟩ := D.s
  obtain ⟨wl, hwa, hwl, hws⟩ := D.w
  obtain ⟨q1, q2, q3, q4⟩ := S.q1
  have hdp := hk _ _ ho q1.symm (nsp D.gp)
  have ka' := hk _ _ hka q2.symm (nsp D.gk)
  have sa' := hk _ _ hsa q3.symm (nsp D.gs)
  have wa' := hk _ _ hwa q4.symm (nsp D.gw)
  obtain ⟨dq0, hq0⟩ := S.o
  have D' : DK c.D G' H' k.dp k.ka k.sa k.wa k.n ⟨k.f, [], true, none⟩ := ⟨fun a o h => by
      by_cases h1 : a = k.sp
      · rw [h1, g1] at h
        rw [h1]
        exact h
      · by_cases h2 : a = hl
        · rw [h2, g2] at h
          rw [h2]
          exact h
        · rw [g3 h1 h2] at h
          exact hk _ _ (ge h) (fun z => by rw [z, S.gq] at h; cases h) h1, gN ho D.gp, gN hka D.gk, gN hsa D.gs, gN hwa D.gw, D.nks, D.nkw, D.nsw, ⟨dx, hdp⟩, ⟨kl, ka', hkl, fun i a ha => gI (hks i a ha) fun _ _ _ z => by cases z⟩, ⟨sl, sa', hsl, fun i a ha => gI (hss i a ha) fun _ _ _ z => by cases z⟩, ⟨wl, wa', hwl, fun i t w ht hw => let ⟨l, a, b⟩ := hws i t w ht hw; ⟨l, gI a (fun _ _ _ z => by cases z), gI b (fun _ _ _ z => by cases z)⟩⟩, D.n0, D.n1, D.wl, D.ok, D.kz⟩
  refine ⟨G', ⟨D', ⟨dq, hq⟩, gN hq0 S.gq, ⟨dh, gG gh (hp_sp (k := k) S)⟩, ⟨ds, by rw [g1]; exact hsp⟩, hcl, ?_, by rw [g2]; exact hhl, lc, lh, ⟨kvs, hmm, M.nt fun a xs h => gI h fun _ _ _ z => by cases z⟩, ?_, S.q1, ⟨(ncl ho).symm, (ncl hka).symm, (ncl hsa).symm, (ncl hwa).symm⟩, ⟨(nm ho).symm, (nm hka).symm, (nm hsa).symm, (nm hwa).symm⟩, ncl hq0, nm hq0, cm⟩, ⟨fun a o h n => gG h n, fun a h g => ?_, hk⟩⟩
  · rw [g3 (ncl hsp0).symm ch]
    exact fresh_back D.g c0
  · rw [g3 (nm hsp0).symm hm.symm]
    exact fresh_back D.g m0
  · cases hx : H a with
    | none => exact absurd hx h
    | some o => exact gN hx g
end
theorem t_ps {dp hp sp tb m m' : Addr} {r : Int} : putF "_memory" (.ref m') (sfl dp hp sp tb r m) = sfl dp hp sp tb r m' := rfl
theorem t_pt {dp hp sp tb tb2 m : Addr} {r : Int} : putF "table" (.ref tb2) (sfl dp hp sp tb r m) = sfl dp hp sp tb2 r m := rfl
section
variable {P : Program} {w : World} {K : PySem.W.Frag} {mg : Str → Option Value} {base : Heap} {c : Cc}
/-- another table -/
def spUt (c : Cc) : Sp := fun vs H Q _ => ∃ G q k d t, vs = [.ref q, .ref t] ∧ ST c G H q k d ∧ ∀ H1, Fm H H1 q k → ST c G H1 q { k with tb := t } d → Q .non H1
theorem ok_ut {f : Addr} {fd : FuncData} (F : Fun K "use_table" "Store.use_table" sUt f fd) (TT : TxT mg K c.T) : FnOk P w K mg base CX0 1 f fd ["self", "pointer"] (spUt c) := by
  refine F.ok scUt (fun vs H Q E h => ?_) (fun cdv A outer s H vs Q E hr h => ?_)
  · obtain ⟨G, q, k, d, t, rfl, _⟩ := h
    rfl
  · obtain ⟨G, q, k, d, t, rfl, S, qq⟩ := h
    refine ⟨_, (pss_one (ps_fld (pv 0) (pv 1) rfl)), ?_⟩
    obtain ⟨dx, ho⟩ := S.o
    refine s_fld (ev_var rfl) (ev_var rfl) ho TT.cl TT.nt (by show 6 < 1000; decide) fun H1 e1 => ?_
    rw [t_pt]
    exact qq _ (Fm.qq e1) (S.setT e1)
end

end NT

set_option Elab.async false
set_option linter.all false
set_option maxRecDepth 100000
set_option maxHeartbeats 4000000
/-! ### sorted(xs) of data at any depth -/
namespace LSD
open PySem PySem.Spec PyProof.Rows L2 Evl
def leD : V × PyData → V × PyData → Bool := PySem.W.dataLe false fun b : V × PyData => b.2
def rSortedDt (K : PySem.W.Frag) : List V → Hp → VK → Prop := fun vs H Q => ∃ (a : Addr) (xs : List V) (ds : List PyData), vs = [V.ref a] ∧ SqL K H a xs ∧ DpAll K H xs ds ∧ PySem.W.AllAlike ds ∧ PySem.W.Sortable ds ∧ (∀ d ∈ ds, d.depth ≤ 8) ∧
  ∀ p, H p = none → Q (.ref p) (upd H p (.lst (((xs.zip ds).mergeSort leD).map (·.1))))
section
variable {X : Cx} {pins : List (Addr × Obj)} {σ : L2.St} {H : Hp} {s : Shared}
theorem each2 (I : Inv X pins σ H s) : ∀ {xs : List V} {ds : List PyData} {its : List Value}, DpAll X.K H xs ds → Vals xs its → PySem.W.EachIs (fun v (b : V × PyData) => RelV b.1 v) its (xs.zip ds) ∧ PySem.W.EachIs (fun v (b : V × PyData) => ∃ as, Reads s.heap v b.2 as) its (xs.zip ds) ∧ (xs.zip ds).map (·.2) = ds
  | _, _, _, .nil, .nil => ⟨.nil, .nil, rfl⟩
  | _, _, _, .cons d ds, .cons r rs => by
    obtain ⟨e1, e2, e3⟩ := each2 I ds rs
    exact ⟨.cons r e1, .cons (Dp.reads I _ _ _ d r) e2, congrArg (_ :: ·) e3⟩
theorem vals_each : ∀ {out : List Value} {bs : List (V × PyData)}, PySem.W.EachIs (fun v (b : V × PyData) => RelV b.1 v) out bs → Vals (bs.map (·.1)) out
  | _, _, .nil => .nil
  | _, _, .cons r e => .cons r (vals_each e)
theorem cr_sortedDt (hu : X.A.units + 64 < cLine) : CallR X (.builtin "sorted") (rSortedDt X.K) := by
  intro pins s σ H vs us Q I r h
  obtain ⟨a, xs, ds, rfl, hs, hd, hal, hk, hdp, q⟩ := h
  obtain ⟨its, rv, hl, hz⟩ := I.list hs
  obtain ⟨u, rfl, ru⟩ := vals1 r
  obtain rfl : u = Value.ref a := ru
  obtain ⟨e, er, e3⟩ := each2 I hd rv
  have hlen : (xs.zip ds).length = its.length := by rw [← e.length]
  refine PySem.W.sorted_data (R := fun v (b : V × PyData) => RelV b.1 v) (enc := fun b : V × PyData => b.2) (bs := xs.zip ds) hl.isList e er (by rw [e3]; exact hal) (by rw [e3]; exact hk) (by rw [hlen, ← rv.length]; exact hz) (fun b hb => ?_) fun out ho eo => ?_
  · have h1 : b.2 ∈ ds := by rw [← e3]; exact List.mem_map.mpr ⟨b, hb, rfl⟩
    have := hdp _ h1
    omega
  · have h2 : Vals (((xs.zip ds).mergeSort leD).map (·.1)) out := vals_each eo
    have h3 : (((xs.zip ds).mergeSort leD).map (·.1)).length ≤ sizeLine := by rw [h2.length, ho, hlen, ← rv.length]; exact hz
    obtain ⟨n, hn⟩ := sortedAll_at s.heap its out.toArray
    exact ⟨.ref _, upd H _ (.lst (((xs.zip ds).mergeSort leD).map (·.1))), I.laid (t' := s.toks) (fun b o e => sortedAll_old e) (Nat.le_succ _) ⟨h3, out, n, h2, hn⟩, rfl, q _ (I.hok.fresh (Nat.le_succ _))⟩
end
theorem perm_sorted {α : Type} {le lt : α → α → Prop} (hn : ∀ a b, lt a b → ¬ le b a) : ∀ {l m : List α}, l.Perm m → l.Pairwise le → m.Pairwise lt → l = m
  | l, [], p, _, _ => p.eq_nil
  | l, x :: m, p, h1, h2 => by
    cases l with
    | nil => exact absurd p.symm.eq_nil (by simp)
    | cons y l =>
      have e : y = x := by
        by_cases h : y = x
        · exact h
        · have a1 : x ∈ y :: l := p.mem_iff.mpr List.mem_cons_self
          have a2 : y ∈ x :: m := p.mem_iff.mp List.mem_cons_self
          have b1 : x ∈ l := (List.mem_cons.mp a1).resolve_left fun z => h z.symm
          have b2 : y ∈ m := (List.mem_cons.mp a2).resolve_left h
          exact absurd ((List.pairwise_cons.mp h1).1 x b1) (hn _ _ ((List.pairwise_cons.mp h2).1 y b2))
      subst e
      rw [perm_sorted hn (List.Perm.cons_inv p) (List.pairwise_cons.mp h1).2 (List.pairwise_cons.mp h2).2]
/-- the sorted list, if one says how it stands: strictly by the data -/
theorem sort_is {bs m : List (V × PyData)} (p : m.Perm bs) (h : m.Pairwise fun a b => PySem.W.dataLt a.2 b.2 = true) : bs.mergeSort leD = m := by
  have tot := PySem.W.sortLe_total (listOrd itemOrd) false (fun b : V × PyData => PySem.W.keyToks b.2)
  have hs := PySem.W.sort_pairwise tot bs
  refine perm_sorted (le := fun a b => leD a b = true) (lt := fun a b => PySem.W.dataLt a.2 b.2 = true) (fun a b h1 h2 => ?_) ((List.mergeSort_perm bs leD).trans p.symm) hs h
  have e : leD b a = !PySem.W.dataLt a.2 b.2 := by
    unfold leD
    rw [PySem.W.dataLe_eq]
    rfl
  rw [e, h1] at h2
  cases h2
theorem lt_ints {a b : List Int} : PySem.W.dataLt (.tuple (a.map PyData.int)) (.tuple (b.map PyData.int)) = decide (a < b) := by
  rw [PySem.W.dataLt_tuple]
  exact PySem.W.dataLt_ints a b
theorem lex_lt : ∀ {a b : List Int}, HT.lexLt a b = true → a < b
  | [], [], h => by cases h
  | [], y :: b, _ => List.nil_lt_cons _ _
  | x :: a, [], h => by cases h
  | x :: a, y :: b, h => by
    have h : (if x = y then HT.lexLt a b else decide (x < y)) = true := h
    by_cases e : x = y
    · rw [if_pos e] at h
      rw [e]
      exact List.cons_lt_cons_iff.mpr (.inr ⟨rfl, lex_lt h⟩)
    · rw [if_neg e] at h
      exact List.cons_lt_cons_iff.mpr (.inl (of_decide_eq_true h))
theorem alike_ints (a b : List Int) : PySem.W.alike (.tuple (a.map PyData.int)) (.tuple (b.map PyData.int)) = true := by
  rw [PySem.W.alike]
  exact PySem.W.alike_ints a b
theorem zip_maps {α β : Type} : ∀ bs : List (α × β), (bs.map (·.1)).zip (bs.map (·.2)) = bs
  | [] => rfl
  | b :: bs => congrArg (b :: ·) (zip_maps bs)
section
variable {K : PySem.W.Frag} {σ : L2.St} {H : Hp} {te : TE}
theorem el_sortedDt {bs m : List (V × PyData)} (h : EvL te σ H (bs.map (·.1))) (hd : ∀ H1, Ex H H1 → DpAll K H1 (bs.map (·.1)) (bs.map (·.2))) (hal : PySem.W.AllAlike (bs.map (·.2))) (hk : PySem.W.Sortable (bs.map (·.2))) (hdp : ∀ d ∈ bs.map (·.2), d.depth ≤ 8) (p : m.Perm bs) (hm : m.Pairwise fun a b => PySem.W.dataLt a.2 b.2 = true) : EvL (tCB (rSortedDt K) (tCons te tNil)) σ H (m.map (·.1)) := fun H1 e Q q =>
  h H1 e _ fun a H2 ha e2 hx => ⟨a, _, _, rfl, sq_of hx, hd H2 (e.trans e2), hal, hk, hdp, fun p0 hp => by
    rw [zip_maps bs, sort_is p hm]
    exact q p0 _ (fresh_back e2 hp) (e2.trans (Ex.new hp)) upd_same⟩
end
end LSD

set_option Elab.async false
set_option linter.all false
set_option maxRecDepth 100000
set_option maxHeartbeats 4000000
namespace LGR
open PySem PySem.Spec PyProof.Rows L2 Evl LT
/-! ### defs that may ask for the text of a list: they run where no text is being made -/
/-- as FnOk, for the contexts in which no repr is under way -/
structure FnG (P : Program) (w : World) (K : PySem.W.Frag) (mg : Str → Option Value) (base : Heap) (k : Nat) (f : Addr) (fd : FuncData) (ps : List Str) (sp : Sp) : Prop where
  len : ∀ vs H Q E, sp vs H Q E → vs.length = ps.length
  run : ∀ (A : Around) (outer : List Env) (s : Shared) (H : Hp) (args : Args) (us : List Value) (vs : List V) (Q : VK) (E : XK), A.guards = some [] → Room k A → Env0 P w K mg base A outer s H → BindsTo s fd args (ps.zip us) → Vals vs us → sp vs H Q E →
    codeAny (model P w) A (.call (.ref f) args) (CR CX0 outer P w H s Q E) s
section
variable {P : Program} {w : World} {K : PySem.W.Frag} {mg : Str → Option Value} {base : Heap}
theorem FnG.mono {j k : Nat} {f : Addr} {fd : FuncData} {ps : List Str} {sp : Sp} (F : FnG P w K mg base j f fd ps sp) (h : j ≤ k) : FnG P w K mg base k f fd ps sp := ⟨F.len, fun A outer s H args us vs Q E hg hr => F.run A outer s H args us vs Q E hg (hr.mono h)⟩
/-- a def by its body, told for these contexts alone -/
theorem okG {x qual : Str} {st : Stmt} {f : Addr} {fd : FuncData} {N ps : List Str} {k : Nat} {sp : Sp} (F : Fun K x qual st f fd) (S : FnScope N ps (defScope st)) (len : ∀ vs H Q E, sp vs H Q E → vs.length = ps.length)
    (hbody : ∀ (cdv : Value) (A : Around) (outer : List Env) (s : Shared) (H : Hp) (vs : List V) (Q : VK) (E : XK), A.guards = some [] → Room k (A.deeper (envOfC qual (defScope st) s.heap.objs.size f cdv)) → sp vs H Q E →
      ∃ t, PSs (cxOf CX0 P w K mg base N qual (defScope st) f cdv A outer s H E).nox (defBody st) t ∧ t { nx := fun _ H' => Q .non H', rt := Q } (start N vs) H) : FnG P w K mg base (k + 1) f fd ps sp := by
  obtain ⟨oc, od, kV, doc, pm, an, cdv, ct, osl, rfl, lk, hcd⟩ := F.ex
  refine ⟨len, fun A outer s H args us vs Q E hg hr e0 hb r hsp => ?_⟩
  obtain ⟨t, ht, hq⟩ := hbody cdv A outer s H vs Q E hg (hr.deeper _) hsp
  have KX : K.In s.heap := e0.mod.kin.keeps fun b o e => (e0.bs b o e).1
  have lim : s.heap.NoLimit := e0.mod.nolimit.keeps fun b o e => (e0.bs b o e).1
  refine codeAny_call_function hr.depth (KX _ _ lk) rfl S.co S.gen rfl (PySem.W.codeRec_of KX hcd) (hb _ _ _ _ ?_)
  refine wpAny_newFunctionEnv_cells S.kind (fun ⟨n, v⟩ hy => (S.par n (List.of_mem_zip hy).1).imp id fun q => ⟨q, PySem.W.cellsFrom_some _ _ _ (.inl q)⟩) fun env he s1 x => ?_
  subst he
  refine ⟨lim.keeps x.toInCall.keep, codeAny_func (wpAny_mono (ht.nox.run [] s1 (start N vs) H _ (inv_start S hr.hd e0 (len _ _ _ _ hsp) r x) hq) (fun fl s' hs => ?_) fun e s' hs => hs)⟩
  match fl, hs with
  | .ret u, ⟨v, σ', H', J, rv, q⟩ => exact ⟨v, H', J.os, J.bare, J.base, J.hok, rv, q⟩
  | .next, ⟨σ', H', J, q⟩ => exact ⟨V.non, H', J.os, J.bare, J.base, J.hok, rfl, q⟩
  | .brk, ⟨_, _, _, q⟩ => exact False.elim q
  | .cont, ⟨_, _, _, q⟩ => exact False.elim q
end
section
variable {X : Cx} {pins : List (Addr × Obj)} {σ : L2.St} {H : Hp} {k : Nat} {f : Addr} {fd : FuncData} {ps : List Str} {sp : Sp} {x : Str} {e : Expr} {es : List Expr} {t : TA} {p pos : Pos}
/-- f(e, ..) -/
theorem pe_callG (F : FnG X.prog X.w X.K X.mg X.base k f fd ps sp) (hG : X.A.guards = some []) (hr : Room k X.A) (hg : Gl X x) (hm : X.mg x = some (.ref f)) (hk : PySem.W.keepIn X.K (.ref f) = true) (hb : Binds X.K fd ps []) (ha : PA X (e :: es) t) (hdb : (x == ("__debug__" : Str)) = false := by decide)
    (he : starEach (e :: es) X.env = (false, eval e X.env) :: starEach es X.env := by rfl) (hpl : (backTo pos (starEach es X.env)).any (·.1) = false := by rfl) : PE X (.Call (.Name x p) (e :: es) [] pos) (tCall sp [] E0 t) := by
  refine ⟨fun pins s σ H Q I h => wpAny_Call_Name_kw (ld_glob I hg hm ?_ hdb)⟩
  refine PySem.W.callWith_K (h₀ := X.base) I.ok.mod.kin hk (thn (ha.run pos pins s σ H _ I h) fun us s1 ⟨vs, H1, I1, r, q⟩ => ⟨I1.kIn, ?_⟩) he hpl
  have r2 : Vals (vs ++ []) (us ++ []) := r.append .nil
  have hl : (us ++ []).length = ps.length := by rw [← r2.length]; exact F.len _ _ _ _ q
  refine wpAny_call (codeAny_mono (F.run X.A X.stack s1 H1 ⟨us, []⟩ (us ++ []) (vs ++ []) Q E0 hG hr I1.env0 (hb s1 us I1.kIn hl) r2 q) fun r s' hq => ?_)
  match r, hq with
  | .ok (.ret u), hq => exact I1.after hq
  | .ok .next, hq => exact False.elim hq
  | .ok .brk, hq => exact False.elim hq
  | .ok .cont, hq => exact False.elim hq
  | .error e, hq => exact False.elim hq
/-- repr(x), x a list or a tuple of data -/
def rRepr (K : PySem.W.Frag) : List V → Hp → VK → Prop := fun vs H Q => ∃ (a : Addr) (d : PyData), vs = [V.ref a] ∧ Dp K H (.ref a) d ∧ d.showable = true ∧ d.hasDict = false ∧ d.depth ≤ 8 ∧ d.shown.length ≤ sizeLine ∧ Q (.str d.shown) H
theorem cr_repr (hG : X.A.guards = some []) (hu : X.A.units + 64 < cLine) : CallR X (.builtin "repr") (rRepr X.K) := by
  intro pins s σ H vs us Q I r h
  obtain ⟨a, d, rfl, hd, h1, h2, h3, h4, q⟩ := h
  rw [Vals.ref1 r]
  obtain ⟨as, rd⟩ := Dp.reads I d (.ref a) (.ref a) hd rfl
  exact repr_of_reads' rd h1 (PyData.noDict_hsm h2) hG (by omega) (fun _ _ e => e) (fun h' u tk hk => ⟨.str d.shown, H, I.kept hk, ⟨_, rfl⟩, q⟩) h4
end
end LGR
namespace LGR
open PySem PySem.Spec PyProof.Rows L2 Evl LT
/-! ### the walk's end for a law whose def is FnG -/
section
variable {K : PySem.W.Frag} {s₁ : Shared} {a : Addr} {cs : List (Addr × Addr)} {vs : List Value} {ns : List Int}
open Classical in
/-- the heap at the law's entry: the tables of code objects, and the script if the head does not know it -/
noncomputable def entryH (K : PySem.W.Frag) (cs : List (Addr × Addr)) (a : Addr) (vs : List Value) (ns : List Int) : Hp := fun b =>
  if b ∈ cs.map (·.2) then some (.ext (TabPhi b)) else if b = a ∧ K.lookup a = none then some (.frz { cls := .type "list", data := .seq vs.toArray } (.lst (ns.map V.int))) else none
structure Entry (K : PySem.W.Frag) (s₁ : Shared) (a : Addr) (cs : List (Addr × Addr)) (vs : List Value) : Prop where
  kx : K.In s₁.heap
  t : ∀ p ∈ cs, s₁.heap.get? p.2 = some { cls := .none, data := .fields #[] } ∧ K.lookup p.2 = none ∧ PySem.W.CodeHd s₁.heap p.1 p.2
  a : s₁.heap.get? a = some { cls := .type "list", data := .seq vs.toArray }
theorem Entry.tab (Y : Entry K s₁ a cs vs) {b : Addr} (h : b ∈ cs.map (·.2)) : s₁.heap.get? b = some { cls := .none, data := .fields #[] } := by
  obtain ⟨p, hp, e⟩ := List.mem_map.mp h
  rw [← e]
  exact (Y.t p hp).1
theorem Entry.na (Y : Entry K s₁ a cs vs) : a ∉ cs.map (·.2) := fun z => by
  have q := Y.tab z
  rw [Y.a] at q
  have z' : Data.seq vs.toArray _ = Data.fields #[] := congrArg Obj.data (Option.some.inj q)
  cases z'
theorem entry_tab {p : Addr × Addr} (hp : p ∈ cs) : Tab (entryH K cs a vs ns) p.2 := if_pos (List.mem_map.mpr ⟨p, hp, rfl⟩)
/-- objects of other kinds are not in it -/
theorem Entry.out (Y : Entry K s₁ a cs vs) {b : Addr} {o : Obj} (e : s₁.heap.get? b = some o) (h1 : ∀ xs n, o.data ≠ .seq xs n) (h2 : o.data ≠ .fields #[]) : entryH K cs a vs ns b = none := by
  unfold entryH
  rw [if_neg fun z => ?_, if_neg fun z => ?_]
  · rw [z.1, Y.a] at e
    cases e
    exact h1 _ _ rfl
  · rw [Y.tab z] at e
    cases e
    exact h2 rfl
theorem Entry.hid (Y : Entry K s₁ a cs vs) {b : Addr} {o : Obj} (e : s₁.heap.get? b = some o) (h1 : ∀ xs n, o.data ≠ .seq xs n) (h2 : o.data ≠ .fields #[]) : (hidT s₁.heap (entryH K cs a vs ns)).get? b = some o := hidT_get e (Y.out e h1 h2)
theorem Entry.dic (Y : Entry K s₁ a cs vs) {b : Addr} {m : Str → Option Value} : s₁.heap.Ns b m → (hidT s₁.heap (entryH K cs a vs ns)).Ns b m
  | ⟨o, es, ep, e, d, r⟩ => ⟨o, es, ep, Y.hid e (fun _ _ z => by rw [d] at z; cases z) (fun z => by rw [d] at z; cases z), d, r⟩
theorem Entry.kin (Y : Entry K s₁ a cs vs) : K.In (hidT s₁.heap (entryH K cs a vs ns)) := fun b o e => hidT_get (Y.kx b o e) (by
  unfold entryH
  rw [if_neg fun z => ?_, if_neg fun z => ?_]
  · rw [z.1, z.2] at e
    cases e
  · obtain ⟨p, hp, ep⟩ := List.mem_map.mp z
    rw [← ep, (Y.t p hp).2.1] at e
    cases e)
theorem Entry.ok (Y : Entry K s₁ a cs vs) (P : Program) (w : World) (hi : IntsAre vs ns) (hl : ns.length ≤ sizeLine) : HOk P w (entryH K cs a vs ns) s₁.heap := fun b u z => by
  by_cases hb : b ∈ cs.map (·.2)
  · have z' : some (HO.ext (TabPhi b)) = some u := (if_pos hb).symm.trans z
    cases z'
    exact tab_ok ⟨#[], Y.tab hb, by simp [TriplesOk]⟩
  · have z1 := (if_neg hb).symm.trans z
    by_cases hc : b = a ∧ K.lookup a = none
    · have z2 := (if_pos hc).symm.trans z1
      cases z2
      rw [hc.1]
      exact ⟨Y.a, by rw [List.length_map]; exact hl, vs, _, vals_ints hi, Y.a⟩
    · have z2 := (if_neg hc).symm.trans z1
      cases z2
theorem Entry.sq (Y : Entry K s₁ a cs vs) (hi : IntsAre vs ns) (hl : ns.length ≤ sizeLine) : SqL K (entryH K cs a vs ns) a (ns.map V.int) := by
  cases hk : K.lookup a with
  | none => exact .inl (.inr ⟨{ cls := .type "list", data := .seq vs.toArray }, (if_neg Y.na).trans (if_pos ⟨rfl, hk⟩)⟩)
  | some o =>
    have e := Y.kx a o hk
    rw [Y.a] at e
    cases e
    exact .inr ⟨_, vs.toArray, _, hk, rfl, rfl, rfl, by rw [List.size_toArray, hi.length]; exact hl, by simpa using vals_ints hi⟩
theorem Entry.tabB (Y : Entry K s₁ a cs vs) {mg : Str → Option Value} (hns : s₁.heap.Ns mainGlobals mg)
    (hbm : ∃ (bm : Addr) (ob : Obj), mg "__builtins__" = some (.ref bm) ∧ bm ≠ builtinsNs ∧ s₁.heap.get? bm = some ob ∧ ob.cls = .type "module" ∧ ob.dict = some builtinsNs ∧ ob.data = .plain) {p : Addr × Addr} (hp : p ∈ cs) : LamX.TabB (hidT s₁.heap (entryH K cs a vs ns)) mg p.1 p.2 := by
  obtain ⟨hT, _, o, us, file, tf, flags, tg, inF, text, tt, e1, r1, r2, r3, r4⟩ := Y.t p hp
  have hglo : ∃ (o : Obj) (es : Array DictEntry) (ep : Nat), s₁.heap.get? mainGlobals = some o ∧ o.data = .dict es ep := let ⟨o, es, ep, e, d, _⟩ := hns; ⟨o, es, ep, e, d⟩
  obtain ⟨og, es, ep, eg, dg⟩ := hglo
  refine ⟨⟨o, us, file, tf, flags, tg, inF, text, tt, Y.hid e1 (fun _ _ z => by rw [r2] at z; cases z) (fun z => by rw [r2] at z; cases z; simp at r3), r1, r2, r3, r4⟩, ?_, fun z => ?_⟩
  · obtain ⟨bm, ob, b1, b2, b3, b4, b5, b6⟩ := hbm
    refine ⟨bm, ob, b1, b2, fun z => ?_, fun z => ?_, Y.hid b3 (fun _ _ z => by rw [b6] at z; cases z) (fun z => by rw [b6] at z; cases z), b4, b5, b6⟩
    · rw [z, eg] at b3
      cases b3
      rw [dg] at b6
      cases b6
    · rw [z, hT] at b3
      cases b3
      cases b6
  · rw [z, hT] at eg
    cases eg
    cases dg
/-- what the end keeps -/
theorem Entry.old (Y : Entry K s₁ a cs vs) {P : Program} {w : World} {H' : Hp} {s' : Shared} (un : Un (frs []) [] (entryH K cs a vs ns) H' s₁.heap s'.heap) (ok' : HOk P w H' s'.heap) (tb : ∀ p ∈ cs, Tab H' p.2) : OldK s₁.heap s'.heap := by
  have key : ∀ b o, b ∉ cs.map (·.2) → s₁.heap.get? b = some o → s'.heap.get? b = some o := fun b o nb e => by
    by_cases hc : b = a ∧ K.lookup a = none
    · have z : entryH K cs a vs ns b = some (.frz { cls := .type "list", data := .seq vs.toArray } (.lst (ns.map V.int))) := (if_neg nb).trans (if_pos hc)
      obtain ⟨e2, _⟩ := ok' b _ (un.frzs b _ _ z)
      rw [hc.1, Y.a] at e
      cases e
      exact e2
    · exact un.keep b o e ((if_neg nb).trans (if_neg hc)) (by intro z; exact absurd (show b ∈ ([] : List Addr) from z) (by simp)) (by simp)
  have grown : ∀ b ∈ cs.map (·.2), ∃ (p : Addr × Addr) (more : Array Value), p ∈ cs ∧ p.2 = b ∧ s'.heap.get? b = some { cls := .none, data := .fields more } := fun b hb => by
    obtain ⟨p, hp, ep⟩ := List.mem_map.mp hb
    obtain ⟨more, hm, _⟩ := (tb p hp).of_ok ok'
    exact ⟨p, more, hp, ep, by rw [← ep]; exact hm⟩
  refine ⟨fun b o e => ?_, fun b o e => ?_⟩
  · by_cases hb : b ∈ cs.map (·.2)
    · obtain ⟨p, more, hp, ep, hm⟩ := grown b hb
      have e0 := Y.tab hb
      rw [e0] at e
      cases e
      rw [← ep] at hm ⊢
      exact .inr (.inl ⟨((Y.t p hp).2.2.tab (Y.t p hp).1).isCodeTable, rfl, #[], more, rfl, by rw [Array.empty_append]; exact hm⟩)
    · exact .inl (key b o hb e)
  · by_cases hb : b ∈ cs.map (·.2)
    · obtain ⟨_, _, _, _, hm⟩ := grown b hb
      exact ⟨_, hm⟩
    · exact ⟨o, key b o hb e⟩
end
/-- the walk, a law that is FnG -/
theorem walk_factsG {l : PySem.W.OpenLaw} {n k : Nat} {q : Program} {loose : List Str} {XP : (Str → Option Value) → Heap → Prop} {YP : World → Heap → Prop} {d : DefRec} {x : Str}
    (hn : l.most = some n) (hn2 : n ≤ sizeLine) (hdf : d.params.defaults = []) (hr : Room k callerA)
    (F : ∀ (w : World) (mg : Str → Option Value) (fa : Addr) (h : Heap), YP w h → h.Ns mainGlobals mg → mg d.name = some (.ref fa) →
      ∃ (K : PySem.W.Frag) (fd : FuncData) (cs : List (Addr × Addr)) (sp : Sp), K.In h ∧ (∀ p ∈ cs, h.get? p.2 = some { cls := .none, data := .fields #[] } ∧ K.lookup p.2 = none ∧ PySem.W.CodeHd h p.1 p.2) ∧ (∀ (s : Shared) (u : Value), BindsTo s fd ⟨[u], []⟩ [(x, u)]) ∧
        (∀ (H : Hp) (a : Addr) (ns : List Int), ns.length ≤ n → (∀ p ∈ cs, Tab H p.2) → SqL K H a (ns.map V.int) → ∀ Q : VK, (∀ H', (∀ p ∈ cs, Tab H' p.2) → Q (.bl true) H') → sp [.ref a] H Q fun _ _ _ => False) ∧
        ∀ base : Heap, K.In base → base.Ns mainGlobals mg → (∀ p ∈ cs, LamX.TabB base mg p.1 p.2) → FnG l.prog w K mg base k fa fd [x] sp) :
    PySem.W.WalkO q loose XP YP l.row.toRowW d [] (fun f vs => PySem.call f vs) := by
  refine Att.attach_callB hn hdf fun w s₀ s₁ mg mb fa o pm cd doc a vs ns G Z ho hd hcd hmg hobj hints hlen hbits hg => ?_
  obtain ⟨K, fd, cs, sp, KX, hcs, hb, hsp, hF⟩ := F w mg fa _ Z G.T.g hmg
  have Y : Entry K s₁ a cs vs := ⟨KX, hcs, hobj⟩
  have hl := Nat.le_trans hlen hn2
  have e0 : Env0 l.prog w K mg (hidT s₁.heap (entryH K cs a vs ns)) callerA [] s₁ (entryH K cs a vs ns) := ⟨rfl, ⟨Y.kin, Y.dic G.T.g, ⟨mb, Y.dic G.T.b, G.T.builtins⟩, let ⟨mc, h1, h2⟩ := G.T.nolimit; ⟨mc, Y.dic h1, h2⟩⟩, fun b o e => of_hidT e, Nat.le_of_eq (hidT_size _ _), trivial, fun b hb => absurd (show b ∈ ([] : List Addr) from hb) (by simp), Y.ok _ _ hints hl, .of_eq hg⟩
  refine codeAny_mono ((hF _ Y.kin (Y.dic G.T.g) fun p hp => Y.tabB G.T.g G.T.bmain hp).run callerA [] s₁ _ ⟨[.ref a], []⟩ [.ref a] [.ref a] (fun v H' => v = .bl true ∧ ∀ p ∈ cs, Tab H' p.2) _ rfl hr e0 (hb s₁ (.ref a)) (.cons rfl .nil) (hsp _ a ns hlen (fun p hp => entry_tab hp) (Y.sq hints hl) _ fun H' h => ⟨rfl, h⟩)) fun r s' h => ?_
  match r, h with
  | .ok (.ret u), ⟨v, H', os, bare, un, ok', rv, hv, tb⟩ =>
    subst hv
    obtain rfl : u = Value.bool true := rv
    exact ⟨rfl, Y.old un ok' tb, os, bare⟩
  | .ok .next, h => exact False.elim h
  | .ok .brk, h => exact False.elim h
  | .ok .cont, h => exact False.elim h
  | .error e, h => exact False.elim h
end LGR
namespace LGR
open PySem PySem.Spec PyProof.Rows L2 Evl LT
/-! ### the text of a list of rows: a number and a list of at most 32 numbers -/
def Sm (z : Int) : Prop := z.natAbs.log2 < 1920
theorem sm_of {z : Int} (h0 : 0 ≤ z) (h : z < 2 ^ 200) : Sm z := by
  unfold Sm
  by_cases e : z.natAbs = 0
  · rw [e]
    decide
  · exact (Nat.log2_lt e).mpr (by omega)
theorem ints_ok : ∀ ns : List Int, (∀ z ∈ ns, Sm z) → ((PyData.shownAll (ns.map PyData.int)).map (·.length)).sum ≤ 1921 * ns.length ∧ (PyData.shownAll (ns.map PyData.int)).length = ns.length ∧ PyData.showableAll (ns.map PyData.int) = true ∧ PyData.hasDictAll (ns.map PyData.int) = false ∧ PyData.depthAll (ns.map PyData.int) = 0
  | [], _ => by simp [PyData.shownAll, PyData.showableAll, PyData.hasDictAll, PyData.depthAll]
  | n :: r, h => by
    obtain ⟨h1, h2, h3, h4, h5⟩ := ints_ok r fun z hz => h z (List.mem_cons_of_mem _ hz)
    have hn : n.natAbs.log2 < 1920 := h n (List.mem_cons_self ..)
    have hl : (PyData.shown (.int n)).length ≤ 1921 := by
      unfold PyData.shown
      exact int_text_len_1921 hn
    refine ⟨?_, ?_, ?_, ?_, ?_⟩
    · rw [List.map_cons, PyData.shownAll, List.map_cons, List.sum_cons, List.length_cons]
      omega
    · rw [List.map_cons, PyData.shownAll, List.length_cons, h2, List.length_cons]
    · rw [List.map_cons, PyData.showableAll, h3, PyData.showable, decide_eq_true hn]
      rfl
    · rw [List.map_cons, PyData.hasDictAll, h4, PyData.hasDict]
      rfl
    · rw [List.map_cons, PyData.depthAll, h5, PyData.depth]
      rfl
def rowD (p : Int × List Int) : PyData := .tuple [.int p.1, .list (p.2.map PyData.int)]
def RowOk (p : Int × List Int) : Prop := Sm p.1 ∧ (∀ z ∈ p.2, Sm z) ∧ p.2.length ≤ 32
theorem row_ok {p : Int × List Int} (h : RowOk p) : (rowD p).shown.length ≤ 64000 ∧ (rowD p).showable = true ∧ (rowD p).hasDict = false ∧ (rowD p).depth ≤ 2 := by
  obtain ⟨h1, h2, h3⟩ := h
  obtain ⟨a1, a2, a3, a4, a5⟩ := ints_ok p.2 h2
  have hn : p.1.natAbs.log2 < 1920 := h1
  have l1 : (PyData.shown (.int p.1)).length ≤ 1921 := by
    unfold PyData.shown
    exact int_text_len_1921 hn
  have l2 := listText_len_le (PyData.shownAll (p.2.map PyData.int))
  have l3 := tupleText_len_le [PyData.shown (.int p.1), PyData.shown (.list (p.2.map PyData.int))]
  have e1 : PyData.shown (.list (p.2.map PyData.int)) = listText (PyData.shownAll (p.2.map PyData.int)) := by rw [PyData.shown]
  have e2 : (rowD p).shown = tupleText [PyData.shown (.int p.1), PyData.shown (.list (p.2.map PyData.int))] := by
    unfold rowD
    rw [PyData.shown.eq_def (.tuple _)]
    simp only [PyData.shownAll]
  refine ⟨?_, ?_, ?_, ?_⟩
  · rw [e2]
    rw [e1] at l3 ⊢
    simp only [List.map_cons, List.map_nil, List.sum_cons, List.sum_nil, List.length_cons, List.length_nil] at l3
    omega
  · unfold rowD
    simp [PyData.showable, PyData.showableAll, a3, hn]
  · unfold rowD
    simp [PyData.hasDict, PyData.hasDictAll, a4]
  · unfold rowD
    simp [PyData.depth, PyData.depthAll, a5]
theorem rows_ok : ∀ ps : List (Int × List Int), (∀ p ∈ ps, RowOk p) → ((PyData.shownAll (ps.map rowD)).map (·.length)).sum ≤ 64000 * ps.length ∧ (PyData.shownAll (ps.map rowD)).length = ps.length ∧ PyData.showableAll (ps.map rowD) = true ∧ PyData.hasDictAll (ps.map rowD) = false ∧ PyData.depthAll (ps.map rowD) ≤ 2
  | [], _ => by simp [PyData.shownAll, PyData.showableAll, PyData.hasDictAll, PyData.depthAll]
  | p :: r, h => by
    obtain ⟨h1, h2, h3, h4, h5⟩ := rows_ok r fun z hz => h z (List.mem_cons_of_mem _ hz)
    obtain ⟨b1, b2, b3, b4⟩ := row_ok (h p (List.mem_cons_self ..))
    refine ⟨?_, ?_, ?_, ?_, ?_⟩
    · rw [List.map_cons, PyData.shownAll, List.map_cons, List.sum_cons, List.length_cons]
      omega
    · rw [List.map_cons, PyData.shownAll, List.length_cons, h2, List.length_cons]
    · rw [List.map_cons, PyData.showableAll, h3, b2]
      rfl
    · rw [List.map_cons, PyData.hasDictAll, h4, b3]
      rfl
    · rw [List.map_cons, PyData.depthAll]
      omega
theorem rowsD_ok {ps : List (Int × List Int)} (h : ∀ p ∈ ps, RowOk p) (hl : ps.length ≤ 64) : (PyData.list (ps.map rowD)).showable = true ∧ (PyData.list (ps.map rowD)).hasDict = false ∧ (PyData.list (ps.map rowD)).depth ≤ 8 ∧ (PyData.list (ps.map rowD)).shown.length ≤ sizeLine := by
  obtain ⟨h1, h2, h3, h4, h5⟩ := rows_ok ps h
  have l := listText_len_le (PyData.shownAll (ps.map rowD))
  refine ⟨by rw [PyData.showable]; exact h3, by rw [PyData.hasDict]; exact h4, by rw [PyData.depth]; omega, ?_⟩
  rw [PyData.shown, sizeLine_eq]
  omega
end LGR
namespace LGR
open PySem PySem.Spec PyProof.Rows L2 Evl LT
/-! ### such a text holds valid signs -/
def SOk (s : Str) : Prop := ∀ c ∈ s.cps.toList, c < 0x110000
theorem sok {s : Str} (h : SOk s) : PyData.strOk s = true := by
  unfold PyData.strOk
  rw [← Array.all_toList, List.all_eq_true]
  exact fun c hc => decide_eq_true (h c hc)
theorem SOk.app {a b : Str} (h : SOk a) (g : SOk b) : SOk (a ++ b) := fun c hc => (mem_cps_append.mp hc).elim (h c) (g c)
theorem SOk.int (n : Int) : SOk ((toString n : String) : Str) := fun c hc => by
  by_cases h : c < 0x110000
  · exact h
  · exact absurd hc (int_text_free' c ⟨by omega, by omega⟩ n)
theorem SOk.join {ts : List Str} (h : ∀ t ∈ ts, SOk t) : SOk (Str.join ", " ts) := fun c hc => by
  rcases (mem_join ", " c ts).mp hc with ⟨t, ht, hc⟩ | ⟨_, hc⟩
  · exact h t ht c hc
  · have hs : (", " : Str).cps.toList = [44, 32] := by decide +kernel
    rw [hs] at hc
    simp only [List.mem_cons, List.not_mem_nil, or_false] at hc
    omega
theorem SOk.lit {s : Str} (h : (s.cps.toList.all fun c => decide (c < 0x110000)) = true) : SOk s := fun c hc => of_decide_eq_true (List.all_eq_true.mp h c hc)
theorem SOk.list {ts : List Str} (h : ∀ t ∈ ts, SOk t) : SOk (listText ts) := by
  rw [listText_eq_join]
  exact ((SOk.lit (by decide +kernel)).app (.join h)).app (.lit (by decide +kernel))
theorem SOk.tuple {ts : List Str} (h : ∀ t ∈ ts, SOk t) : SOk (tupleText ts) := by
  unfold tupleText
  refine SOk.app ((SOk.lit (by decide +kernel)).app (.join h)) ?_
  split <;> exact .lit (by decide +kernel)
theorem sok_ints : ∀ ns : List Int, ∀ t ∈ PyData.shownAll (ns.map PyData.int), SOk t
  | [], t, h => by simp [PyData.shownAll] at h
  | n :: r, t, h => by
    rw [List.map_cons, PyData.shownAll] at h
    rcases List.mem_cons.mp h with e | h
    · rw [e, PyData.shown]
      exact SOk.int n
    · exact sok_ints r t h
theorem sok_row (p : Int × List Int) : SOk (rowD p).shown := by
  unfold rowD
  rw [PyData.shown.eq_def (.tuple _)]
  simp only [PyData.shownAll]
  refine SOk.tuple fun t ht => ?_
  simp only [List.mem_cons, List.not_mem_nil, or_false] at ht
  rcases ht with e | e
  · rw [e, PyData.shown]
    exact SOk.int _
  · rw [e, PyData.shown]
    exact SOk.list (sok_ints _)
theorem sok_rows : ∀ ps : List (Int × List Int), ∀ t ∈ PyData.shownAll (ps.map rowD), SOk t
  | [], t, h => by simp [PyData.shownAll] at h
  | p :: r, t, h => by
    rw [List.map_cons, PyData.shownAll] at h
    rcases List.mem_cons.mp h with e | h
    · rw [e]
      exact sok_row p
    · exact sok_rows r t h
theorem sok_rowsD (ps : List (Int × List Int)) : PyData.strOk (PyData.list (ps.map rowD)).shown = true := sok (by
  rw [PyData.shown]
  exact SOk.list (sok_rows ps))
end LGR

set_option Elab.async false
set_option linter.all false
set_option maxRecDepth 100000
set_option maxHeartbeats 4000000
namespace K24
open PySem PySem.Spec PyProof.Rows L2 Evl LK LT LG LS LQ LX LO LN LP LH LV LZ LW StX LD
open ND (DK Dk St)
open NS (fr cv hv headV used In flds)
open NT (Cc Sk Sd ST SP Fm cont newB fre setM dropD TxT TxH tno memL Txt hfl sfl)
def top (i : Nat) : Stmt := PySem.Challenge.pw_laminae_k59_commit_steps.main.body.getD i (.Pass ⟨0, 0, 0, 0⟩)
abbrev sTape : Stmt := top 40
theorem scTape : FnScope ["script", "tape", "k", "value", "step"] ["script"] (defScope sTape) := ⟨rfl, rfl, rfl, by decide +kernel, rfl, by decide +kernel, by decide +kernel⟩
abbrev sAt : Stmt := top 41
theorem scAt : FnScope ["tape", "k"] ["tape", "k"] (defScope sAt) := ⟨rfl, rfl, rfl, by decide +kernel, rfl, by decide +kernel, by decide +kernel⟩
abbrev sLb : Stmt := top 42
theorem scLb : FnScope ["number", "extra", "j"] ["number", "extra"] (defScope sLb) := ⟨rfl, rfl, rfl, by decide +kernel, rfl, by decide +kernel, by decide +kernel⟩
abbrev sLpb : Stmt := top 44
theorem scLpb : FnScope ["disk", "number", "words", "part"] ["disk", "number", "words"] (defScope sLpb) := ⟨rfl, rfl, rfl, by decide +kernel, rfl, by decide +kernel, by decide +kernel⟩
abbrev sLst : Stmt := top 45
theorem scLst : FnScope ["tape", "generation", "disk", "numbers", "number", "other", "head", "k", "store"] ["tape", "generation"] (defScope sLst) := ⟨rfl, rfl, rfl, by decide +kernel, rfl, by decide +kernel, by decide +kernel⟩
abbrev sLwk : Stmt := top 46
theorem scLwk : FnScope ["store", "tape", "start", "many", "recent", "k", "number", "pick", "pointer"] ["store", "tape", "start", "many"] (defScope sLwk) := ⟨rfl, rfl, rfl, by decide +kernel, rfl, by decide +kernel, by decide +kernel⟩
abbrev sLdu : Stmt := top 47
theorem scLdu : FnScope ["store", "contents", "generation", "mark", "steps", "row", "part", "head"] ["store", "contents", "generation", "mark"] (defScope sLdu) := ⟨rfl, rfl, rfl, by decide +kernel, rfl, by decide +kernel, by decide +kernel⟩
abbrev sLaf : Stmt := top 48
theorem scLaf : FnScope ["image", "steps", "after", "step", "words"] ["image", "steps"] (defScope sLaf) := ⟨rfl, rfl, rfl, by decide +kernel, rfl, by decide +kernel, by decide +kernel⟩
abbrev sLse : Stmt := top 49
theorem scLse : FnScope ["store", "numbers", "number", "pointer", "k"] ["store", "numbers"] (defScope sLse) := ⟨rfl, rfl, rfl, by decide +kernel, rfl, by decide +kernel, by decide +kernel⟩
abbrev sLib : Stmt := top 43
theorem scLib : FnScope ["told", "due", "j"] ["told", "due"] (defScope sLib) := ⟨rfl, rfl, rfl, by decide +kernel, rfl, by decide +kernel, by decide +kernel⟩
abbrev sLaw : Stmt := top 50
theorem scLaw : FnScope ["script", "tape", "generation", "store", "mark", "many", "made", "numbers", "contents", "image", "table", "due", "steps", "done", "row", "k"] ["script"] (defScope sLaw) := ⟨rfl, rfl, rfl, by decide +kernel, rfl, by decide +kernel, by decide +kernel⟩
/-! ### the tape, blocks, blocks put on the disk -/
/-! ### the tape: some numbers from 0 to 999 -/
def Good (ts : List Int) : Prop := ∀ t ∈ ts, 0 ≤ t ∧ t < 1000
theorem Good.snoc {ts : List Int} {t : Int} (h : Good ts) (h0 : 0 ≤ t) (h1 : t < 1000) : Good (ts ++ [t]) := fun z hz => by
  rcases List.mem_append.mp hz with q | q
  · exact h z q
  · rw [List.mem_singleton.mp q]
    exact ⟨h0, h1⟩
theorem Good.cell {ts : List Int} (h : Good ts) (k : Nat) : 0 ≤ cellv ts k ∧ cellv ts k < 1000 := by
  unfold cellv
  rw [List.getD_eq_getElem?_getD]
  cases e : ts[k]? with
  | none => exact ⟨by decide, by decide⟩
  | some t => exact h t (List.mem_of_getElem? e)
def spTape (K : PySem.W.Frag) : Sp := fun vs H Q _ => ∃ (a : Addr) (ns : List Int), vs = [.ref a] ∧ SqL K H a (ns.map V.int) ∧ ns.length ≤ 63 ∧ ∀ (p : Addr) (H' : Hp) (ts : List Int), H p = none → Ex H H' → H' p = some (.lst (ts.map V.int)) → Good ts → ts.length ≤ 3780 → Q (.ref p) H'
section
variable {P : Program} {w : World} {K : PySem.W.Frag} {mg : Str → Option Value} {base : Heap} 
theorem ok_tape {f : Addr} {fd : FuncData} (F : Fun K "_law_tape" "_law_tape" sTape f fd) (T : Txt mg ) : FnOk P w K mg base CX0 1 f fd ["script"] (spTape K) := by
  refine F.ok scTape (fun vs H Q E h => ?_) (fun cdv A outer s H vs Q E hr h => ?_)
  · obtain ⟨a, ns, rfl, _⟩ := h
    rfl
  · obtain ⟨a, ns, rfl, hS, hlen, q⟩ := h
    refine ⟨_, (pss_cons (ps_set (i := 1) scTape.nd rfl (Or.inl rfl) (pe_lst pa_nil))
      (pss_cons (ps_for PassesOwn.never rfl (pi_range1 (by rfl) T.range (pa_cons (pe_callB call_len_seq (by rfl) T.len (by decide +kernel) (pa_cons (pv 0) pa_nil)) pa_nil)) (pg_name (i := 2) scTape.nd rfl (Or.inl rfl)) (pss_cons (ps_set (i := 3) scTape.nd rfl (Or.inl rfl) (pe_callB call_abs (by rfl) T.abs (by decide +kernel) (pa_cons (pe_callTy call_int1 (by rfl) T.int (by decide +kernel) (pa_cons (pe_ix ix_list (pv 0) (pv 2) (fun _ _ => rfl)) pa_nil)) pa_nil)))
      (pss_one (ps_if (pt_cmpR op_ge (pv 3) (pe_op op_pow pe_int pe_int) (nomark _)) (pss_one (ps_for PassesOwn.never rfl (pi_range1 (by rfl) T.range (pa_cons pe_int pa_nil)) (pg_name (i := 4) scTape.nd rfl (Or.inl rfl)) (pss_one (ps_if (pt_cmpR op_gt (pv 3) pe_int (nomark _)) (pss_cons (ps_expr (pe_bm PySem.F.plainAttrs_list PySem.F.slot_list_append PySem.F.type_list_append mt_append (pv 1) (pa_cons (pe_op op_mod (pv 3) pe_int) pa_nil)))
      (pss_one (ps_set (i := 3) scTape.nd rfl (Or.inl rfl) (pe_op op_fdiv (pv 3) pe_int)))) pss_nil)))) (pss_one (ps_for PassesOwn.never rfl (pi_range1 (by rfl) T.range (pa_cons pe_int pa_nil)) (pg_name (i := 4) scTape.nd rfl (Or.inl rfl)) (pss_cons (ps_set (i := 3) scTape.nd rfl (Or.inl rfl) (pe_op op_mod (pe_op op_add (pe_op op_add (pe_op op_mul (pv 3) pe_int) (pe_op op_mul pe_int (pe_op op_add (pv 2) pe_int))) (pe_op op_mul pe_int (pv 4))) pe_int))
      (pss_cons (ps_set (i := 3) scTape.nd rfl (Or.inl rfl) (pe_op op_mod (pe_op op_mul (pv 3) pe_int) pe_int))
      (pss_one (ps_expr (pe_bm PySem.F.plainAttrs_list PySem.F.slot_list_append PySem.F.type_list_append mt_append (pv 1) (pa_cons (pe_op op_mod (pe_op op_fdiv (pv 3) pe_int) pe_int) pa_nil))))))))))))
      (pss_one (ps_ret (pv 1))))), ?_⟩
    refine q_asgL (el_lst ea_nil (by decide)) fun ta H1 hta e1 h1 => ?_
    have len : Ev (tCB (rLenS K) (tCons (tVar 0) tNil)) [some (.ref a), some (.ref ta), none, none, none] H1 (.int (ns.length : Int)) := ev_is (ev_len (ev_var rfl) (ex_l e1 hS)) (by rw [List.length_map])
    refine q_forR1 (n := (ns.length : Int)) (ea_cons len ea_nil) ⟨by omega, by omega⟩
      (fun i σ' H' => ∃ ts y2 y3 y4, σ' = [some (.ref a), some (.ref ta), y2, y3, y4] ∧ Ex H H' ∧ H' ta = some (.lst (ts.map V.int)) ∧ Good ts ∧ ts.length ≤ 60 * i)
      (fun H2 e2 => ⟨[], none, none, none, rfl, e1.trans e2, e2 _ _ h1, (fun _ z => by cases z), by simp⟩) ?_ ?_
    · rintro i σ' H' hi ⟨ts, y2, y3, y4, rfl, e0, ht, hg, hl⟩
      have hi' : i < ns.length := by omega
      refine q_asg (ev_cb (ea_cons (ev_cb (ea_cons (ev_op (ev_var rfl) (ev_var rfl) (rv_ixL (ex_l e0 hS) (atI_nat (v := .int ns[i]) (by rw [List.getElem?_map, List.getElem?_eq_getElem hi']; rfl)))) ea_nil) (fun H1 _ Q q => .inl ⟨_, rfl, q _ (Ex.refl _)⟩)) ea_nil) (fun H1 _ Q q => ⟨_, rfl, q _ (Ex.refl _)⟩)) fun H2 e2 => ?_
      generalize (if ns[i] < 0 then -ns[i] else ns[i]) = v
      refine s_if (et_test (ev_op (ev_var rfl) (ev_op ev_c ev_c (rv_I ⟨by decide, by decide, by decide⟩)) rv_I0)) (fun _ H3 e3 => ?_) (fun _ H3 e3 => ?_)
      · refine s_forR1 (n := 60) (ea_cons ev_c ea_nil) ⟨by decide, by decide⟩ (fun j σ2 H4 => ∃ us z y4, σ2 = [some (.ref a), some (.ref ta), some (.int (i : Int)), some (.int z), y4] ∧ Ex H H4 ∧ H4 ta = some (.lst (us.map V.int)) ∧ Good us ∧ us.length ≤ 60 * i + j)
          (fun H4 e4 => ⟨ts, v, y4, rfl, ((e0.trans e2).trans e3).trans e4, ((e2.trans e3).trans e4) _ _ ht, hg, by omega⟩) ?_ ?_
        · rintro j σ2 H4 hj ⟨us, z, y4', rfl, e4, hu, hgu, hlu⟩
          refine s_when (et_test (ev_op (ev_var rfl) ev_c rv_I0)) (fun _ H5 e5 => ?_) (fun _ H5 e5 => ⟨us, z, _, rfl, e4.trans e5, e5 _ _ hu, hgu, by omega⟩)
          refine q_app (v := .int (z % 1000)) (e5 _ _ hu) (ev_var rfl) (ev_op (ev_var rfl) ev_c (rv_I (by show (0 : Int) < 1000; decide))) (by rw [List.length_map]; omega) fun H6 e6 => ?_
          have nta : H ta = none := hta
          refine s_asg (ev_op (ev_var rfl) ev_c (rv_I ⟨by decide, by decide⟩)) fun H7 e7 => ⟨us ++ [z % 1000], _, _, rfl, ((e4.trans e5).trans e6).mut nta |>.trans e7, ?_, hgu.snoc (by omega) (by omega), by rw [List.length_append, List.length_singleton]; omega⟩
          rw [e7 ta _ upd_same, List.map_append]
          rfl
        · rintro σ2 H4 ⟨us, z, y4', rfl, e4, hu, hgu, hlu⟩
          exact ⟨us, _, _, _, rfl, e4, hu, hgu, by show us.length ≤ 60 * (i + 1); have : us.length ≤ 60 * i + (60 : Int).toNat := hlu; omega⟩
      · refine s_forR1 (n := 4) (ea_cons ev_c ea_nil) ⟨by decide, by decide⟩ (fun j σ2 H4 => ∃ us z y4, σ2 = [some (.ref a), some (.ref ta), some (.int (i : Int)), some (.int z), y4] ∧ Ex H H4 ∧ H4 ta = some (.lst (us.map V.int)) ∧ Good us ∧ us.length ≤ 60 * i + j)
          (fun H4 e4 => ⟨ts, v, y4, rfl, ((e0.trans e2).trans e3).trans e4, ((e2.trans e3).trans e4) _ _ ht, hg, by omega⟩) ?_ ?_
        · rintro j σ2 H4 hj ⟨us, z, y4', rfl, e4, hu, hgu, hlu⟩
          refine q_asg (ev_op (ev_op (ev_op (ev_op (ev_var rfl) ev_c (rv_I (.inr ⟨by decide, by decide⟩))) (ev_op ev_c (ev_op (ev_var rfl) ev_c rv_I0) (rv_I (.inl ⟨by decide, by decide⟩))) rv_I0) (ev_op ev_c (ev_var rfl) (rv_I (.inl ⟨by decide, by decide⟩))) rv_I0) ev_c (rv_I (by show (0 : Int) < 2147483647; decide))) fun H5 e5 => ?_
          refine q_asg (ev_op (ev_op (ev_var rfl) ev_c (rv_I (.inr ⟨by decide, by decide⟩))) ev_c (rv_I (by show (0 : Int) < 2147483647; decide))) fun H6 e6 => ?_
          generalize (z * 48271 + 69621 * ((i : Int) + 1) + 7 * (j : Int)) % 2147483647 * 16807 % 2147483647 = z2
          refine s_app (v := .int (z2 / 1000 % 1000)) ((e5.trans e6) _ _ hu) (ev_var rfl) (ev_op (ev_op (ev_var rfl) ev_c (rv_I ⟨by decide, by decide⟩)) ev_c (rv_I (by show (0 : Int) < 1000; decide))) (by rw [List.length_map]; omega) fun H7 e7 => ⟨us ++ [z2 / 1000 % 1000], z2, _, rfl, (((e4.trans e5).trans e6).trans e7).mut hta, ?_, hgu.snoc (by omega) (by omega), by rw [List.length_append, List.length_singleton]; omega⟩
          rw [upd_same, List.map_append]
          rfl
        · rintro σ2 H4 ⟨us, z, y4', rfl, e4, hu, hgu, hlu⟩
          exact ⟨us, _, _, _, rfl, e4, hu, hgu, by show us.length ≤ 60 * (i + 1); have : us.length ≤ 60 * i + (4 : Int).toNat := hlu; omega⟩
    · rintro σ' H' ⟨ts, y2, y3, y4, rfl, e0, ht, hg, hl⟩
      exact s_ret (ev_var rfl) fun H2 e2 => q ta H2 ts hta (e0.trans e2) (e2 _ _ ht) hg (by have : ts.length ≤ 60 * (ns.length : Int).toNat := hl; omega)
theorem ok_at {f : Addr} {fd : FuncData} (F : Fun K "_law_at" "_law_at" sAt f fd) (T : Txt mg ) : FnOk P w K mg base CX0 1 f fd ["tape", "k"] (spCel K) := by
  refine F.ok scAt (fun vs H Q E h => ?_) (fun cdv A outer s H vs Q E hr h => ?_)
  · obtain ⟨a, ns, k, rfl, _⟩ := h
    rfl
  · obtain ⟨a, ns, k, rfl, hS, q⟩ := h
    refine ⟨_, (pss_cons (ps_if (pt_cmpR op_lt (pv 1) (pe_callB call_len_seq (by rfl) T.len (by decide +kernel) (pa_cons (pv 0) pa_nil)) (nomark _)) (pss_one (ps_ret (pe_ix ix_list (pv 0) (pv 1) (fun _ _ => rfl)))) pss_nil)
      (pss_one (ps_ret pe_int))), ?_⟩
    refine q_when (et_test (ev_op (ev_var rfl) (ev_len (ev_var rfl) hS) rv_I0)) (fun hb H1 e1 => ?_) (fun hb H1 e1 => ?_)
    · have hk : k < ns.length := by
        have := of_decide_eq_true hb
        rw [List.length_map] at this
        omega
      exact s_ret (ev_op (ev_var rfl) (ev_var rfl) (rv_ixL (ex_l e1 hS) (atI_nat (cellv_in hk)))) fun H2 e2 => q H2 (e1.trans e2)
    · have hk : ns.length ≤ k := by
        have := of_decide_eq_false hb
        rw [List.length_map] at this
        omega
      rw [cellv_out hk] at q
      exact s_ret ev_c fun H2 e2 => q H2 (e1.trans e2)
end

def lbF (a b : Int) : List Int := (List.range 32).map fun i : Nat => (a * ((i : Int) + 2) + b * (i : Int) * (i : Int) + (i : Int)) % 2003
theorem lbF_len (a b : Int) : (lbF a b).length = 32 := by unfold lbF; rw [List.length_map, List.length_range]
theorem lbF_b {a b : Int} : ∀ z ∈ lbF a b, 0 ≤ z ∧ z < 2003 := fun z hz => by
  unfold lbF at hz
  obtain ⟨i, _, rfl⟩ := List.mem_map.mp hz
  exact ⟨Int.emod_nonneg _ (by decide), Int.emod_lt_of_pos _ (by decide)⟩
def spLb : Sp := fun vs H Q _ => ∃ a b : Int, vs = [.int a, .int b] ∧ 0 ≤ a ∧ a < 1000 ∧ 0 ≤ b ∧ b < 1000 ∧ RetL ((lbF a b).map V.int) H Q
def wb (i : Nat) (ns : List Int) (m : Nat) : List (Nat × List Int) := (List.range m).map fun j => (4 * i + j, (ns.drop (8 * j)).take 8)
def spLpb (C Pw : Addr) : Sp := fun vs H Q _ => ∃ G p ka sa wa n d u ns, ∃ i : Nat, vs = [.ref p, .int (i : Int), .ref u] ∧ DK C G H p ka sa wa n d ∧ H u = some (.lst (ns.map V.int)) ∧ ns.length = 32 ∧ (∀ z ∈ ns, 0 ≤ z) ∧ i < n ∧ d.pw = true ∧ d.bf = none ∧ d.ws.length + 4 ≤ 300 ∧ Tab G Pw ∧
  ∀ G' H1, St G H G' H1 → (∀ a o, H a = some o → a ≠ p → a ≠ sa → a ≠ wa → H1 a = some o) → DK C G' H1 p ka sa wa n ⟨d.kept, d.ws ++ wb i ns 4, true, none⟩ → Q .non H1
theorem ir_ne {row : List Int} {ks : List Addr} (h : 0 < row.length) : HO.lst (row.map V.int) ≠ HO.lst (ks.map V.ref) := fun z => by
  match row, h, ks with
  | x :: r, _, [] => cases z
  | x :: r, _, k :: ks => cases z
section
variable {P : Program} {w : World} {K : PySem.W.Frag} {mg : Str → Option Value} {base : Heap} {c : Cc} {CN CO CS Pw : Addr}
theorem ok_lb {f : Addr} {fd : FuncData} (F : Fun K "_law_block" "_law_block" sLb f fd) (T : Txt mg) : FnOk P w K mg base CX0 1 f fd ["number", "extra"] spLb := by
  refine F.ok scLb (fun vs H Q E h => ?_) (fun cdv A outer s H vs Q E hr h => ?_)
  · obtain ⟨a, b, rfl, _⟩ := h
    rfl
  · obtain ⟨a, b, rfl, a0, a1, b0, b1, q⟩ := h
    refine ⟨_, (pss_one (ps_ret (pe_lc (own := [("j", 2)]) (g := gName 2) (tt := tYes) rfl scLb.nd (pi_range1 (by rfl) T.range (pa_cons pe_int pa_nil)) (blkOk_by (own := [("j", 2)]) (N := ["number", "extra", "j"]) (sc := defScope sLb) (by decide +kernel)) (fun _ _ _ _ _ => pg_name (i := 2) scLb.nd rfl (Or.inl rfl)) (fun _ _ _ _ _ => pts_nil) (fun _ _ _ _ _ => (pe_op op_mod (pe_callTy call_int1 (by rfl) T.int (by decide +kernel) (pa_cons (pe_op op_add (pe_op op_add (pe_op op_mul (pv 0) (pe_op op_add (pv 2) pe_int)) (pe_op op_mul (pe_op op_mul (pv 1) (pv 2)) (pv 2))) (pv 2)) pa_nil)) pe_int))))), ?_⟩
    refine s_retL (el_is (el_lcR1 (n := 32) (fun _ => true) (fun i : Nat => .int ((a * ((i : Int) + 2) + b * (i : Int) * (i : Int) + (i : Int)) % 2003)) (ea_cons ev_c ea_nil) ⟨by decide, by decide⟩ (fun _ => rfl) (fun i H1 e1 hi => fun H2 _ Q q => q _ (Ex.refl _)) (fun i H1 e1 hi _ => ?_)) (show _ = (((List.range 32).map fun i : Nat => (a * ((i : Int) + 2) + b * (i : Int) * (i : Int) + (i : Int)) % 2003).map V.int : List V) from rfl)) q
    · have hi8 : i < 32 := by omega
      have m1 : b * (i : Int) < 1000000 := by
        have := Int.mul_le_mul_of_nonneg_right (show b ≤ 1000 by omega) (show (0 : Int) ≤ (i : Int) by omega)
        omega
      have m0 : 0 ≤ b * (i : Int) := Int.mul_nonneg b0 (by omega)
      exact ev_op (ev_int1 (ev_op (ev_op (ev_op (ev_var rfl) (ev_op (ev_var rfl) ev_c rv_I0) (rv_I (.inl ⟨by omega, by omega⟩))) (ev_op (ev_op (ev_var rfl) (ev_var rfl) (rv_I (.inl ⟨by omega, by omega⟩))) (ev_var rfl) (rv_I (.inl ⟨by omega, by omega⟩))) rv_I0) (ev_var rfl) rv_I0)) ev_c (rv_I (by show (0 : Int) < 2003; decide))
theorem s_m2L {σ : L2.St} {H : Hp} {ta te t1 : TE} {D : Ends} {sp : Sp} {E : XK} {C p dx : Addr} {m : Str} {fs : List (Str × V)} {v : V} {xs : List V} (ha : Ev ta σ H (.ref p)) (hi : H p = some (.ins C dx fs)) (hl : fs.lookup m = none) (h1 : Ev t1 σ H v) (ht : EvL te σ H xs) (k : ∀ c H1, H c = none → Ex H H1 → H1 c = some (.lst xs) → sp [.ref p, v, .ref c] H1 (fun _ H2 => D.nx σ H2) E) : tDrop (tMeth C m sp [] E ta (tCons t1 (tCons te tNil))) D σ H :=
  ha H (Ex.refl _) _ fun H2 e2 => ⟨p, dx, fs, rfl, e2 _ _ hi, hl, h1 H2 e2 _ fun H3 e3 => ht H3 (e2.trans e3) _ fun c H4 hc e4 h4 => k c H4 (fresh_back (e2.trans e3) hc) ((e2.trans e3).trans e4) h4⟩
theorem ok_lpb {f fW : Addr} {fd fdW : FuncData} (F : Fun K "_law_put_block" "_law_put_block" sLpb f fd) (GD_write : FnOk P w K mg base (L2.CX P w) 3 fW fdW ["self", "sector", "words"] (ND.spWrite c.D CN CO Pw)) (bD_write : Binds K fdW ["self", "sector", "words"] []) (mD_write : Meth K c.D "write" fW) (T : Txt mg) (TD : ND.Txt mg K c.D) : FnOk P w K mg base CX0 4 f fd ["disk", "number", "words"] (spLpb c.D Pw) := by
  refine F.ok scLpb (fun vs H Q E h => ?_) (fun cdv A outer s H vs Q E hr h => ?_)
  · obtain ⟨G, p, ka, sa, wa, n, d, u, ns, i, rfl, _⟩ := h
    rfl
  · obtain ⟨G, p, ka, sa, wa, n, d, u, ns, i, rfl, D, hu, hl, hnn, hi, pw, bf, hwl, hT, q⟩ := h
    refine ⟨_, (pss_one (ps_for PassesOwn.never rfl (pi_range1 (by rfl) T.range (pa_cons pe_int pa_nil)) (pg_name (i := 3) scLpb.nd rfl (Or.inl rfl)) (pss_one (ps_expr (pe_meth (pv 0) TD.cl mD_write GD_write (hr.mono (by decide)) bD_write .nil passL (pa_cons (pe_op op_add (pe_op op_mul pe_int (pv 1)) (pv 3)) (pa_cons (pe_slice sl_list (pv 2) (po_some (pe_op op_mul pe_int (pv 3))) (po_some (pe_op op_add (pe_op op_mul pe_int (pv 3)) pe_int))) pa_nil))))))), ?_⟩
    refine s_forR1 (n := 4) (ea_cons ev_c ea_nil) ⟨by decide, by decide⟩ (fun j σ' B => ∃ G1 y, σ' = [some (.ref p), some (.int (i : Int)), some (.ref u), y] ∧ DK c.D G1 B p ka sa wa n ⟨d.kept, d.ws ++ wb i ns j, true, none⟩ ∧ St G H G1 B ∧ (∀ a o, H a = some o → a ≠ p → a ≠ sa → a ≠ wa → B a = some o) ∧ B u = some (.lst (ns.map V.int))) (fun B eB => ⟨G, none, rfl, by
      have h := D.ex eB
      have hd : d = ⟨d.kept, d.ws ++ wb i ns 0, true, none⟩ := by
        cases d
        simp only at pw bf
        rw [pw, bf]
        show _ = ND.Dk.mk _ (_ ++ []) _ _
        rw [List.append_nil]
      rw [hd] at h
      exact h, ND.St.ex eB, fun a o h _ _ _ => eB _ _ h, eB _ _ hu⟩) ?_ ?_
    · rintro j σ' B hj ⟨G1, y, rfl, D1, S1, fr1, hu1⟩
      obtain ⟨dx, ho⟩ := D1.o
      obtain ⟨ss, hs1, _⟩ := D1.s
      obtain ⟨tw, hw1, _⟩ := D1.w
      have hn1 := D.n1
      have hsl : ((ns.drop (8 * j)).take 8).length = 8 := by
        rw [List.length_take, List.length_drop, hl]
        omega
      refine s_m2L (ev_var rfl) ho (ND.d_no ⟨by decide +kernel, by decide +kernel, by decide +kernel, by decide +kernel, by decide +kernel, by decide +kernel⟩) (ev_op (ev_op ev_c (ev_var rfl) (rv_I (.inl ⟨by decide, by decide⟩))) (ev_var rfl) rv_I0) (el_is (ys := ((ns.drop (8 * j)).take 8).map V.int) (el_sl (ev_var rfl) (eo_some (ev_op ev_c (ev_var rfl) (rv_I (.inl ⟨by decide, by decide⟩)))) (eo_some (ev_op (ev_op ev_c (ev_var rfl) (rv_I (.inl ⟨by decide, by decide⟩))) ev_c rv_I0)) (sq_of hu1)) (by
        rw [show (8 : Int) * (j : Int) + 8 = ((8 * j + 8 : Nat) : Int) by push_cast; rfl, show (8 : Int) * (j : Int) = ((8 * j : Nat) : Int) by push_cast; rfl, cut_mid _ (by omega) (by rw [List.length_map]; omega), show 8 * j + 8 - 8 * j = 8 by omega, List.map_take, List.map_drop])) fun v H2 hv e2 h2 => ⟨G1, p, ka, sa, wa, n, _, 4 * (i : Int) + (j : Int), v, _, rfl, D1.ex e2, h2, ND.kd_ints _, hT.mono S1.g, by
          show (d.ws ++ wb i ns j).length < 300
          unfold wb
          rw [List.length_append, List.length_map, List.length_range]
          omega, (fun z => by rw [z, ho] at hv; cases hv), fun hno => absurd ⟨⟨by omega, by omega⟩, by rw [List.length_map]; exact hsl, ND.ints_wd fun z hz => hnn z (List.mem_of_mem_drop (List.mem_of_mem_take hz))⟩ hno, fun _ s' ns' hs' hs4 hns h8' hnn' G2 H4 S4 fr4 D4 => ?_, fun hno _ => absurd ⟨rfl, fun z => by cases z⟩ hno⟩
      obtain rfl : s' = 4 * i + j := by omega
      obtain rfl := ints_inj hns
      refine ⟨G2, some (.int (j : Int)), rfl, ?_, S1.trans ((ND.St.ex (G := G1) e2).trans S4), fun a o h n1 n2 n3 => fr4 _ _ (e2 _ _ (fr1 a o h n1 n2 n3)) n1 n2 n3, fr4 _ _ (e2 _ _ hu1) (ne_of hu1 ho (by intro z; cases z)) (ne_of hu1 hs1 (ir_ne (by omega))) (ne_of hu1 hw1 (ir_ne (by omega)))⟩
      have hw : d.ws ++ wb i ns (j + 1) = (d.ws ++ wb i ns j) ++ [(4 * i + j, (ns.drop (8 * j)).take 8)] := by
        unfold wb
        rw [List.range_succ, List.map_append, List.append_assoc]
        rfl
      rw [hw]
      exact D4
    · rintro σ' B ⟨G1, y, rfl, D1, S1, fr1, hu1⟩
      exact q G1 B S1 fr1 D1
end

end K24

set_option Elab.async false
set_option linter.all false
set_option maxRecDepth 100000
set_option maxHeartbeats 4000000
namespace K24
open PySem PySem.Spec PyProof.Rows L2 Evl LK LT LG LS LQ LX LO LN LP LH LV LZ LW StX LD
open ND (DK Dk St)
open NS (fr cv hv headV used In flds)
open NT (Cc Sk Sd ST SP Fm cont newB fre setM dropD TxT TxH tno memL Txt hfl sfl)
/-! ### the store of the law -/
theorem cv_set {cs : List Int} {i : Nat} {v : Int} (hi : i < cs.length) (x : Nat) : cv (cs.set i v) x = if x = i then v else cv cs x := by
  unfold NS.cv
  rw [List.getD_eq_getElem?_getD, List.getD_eq_getElem?_getD, List.getElem?_set]
  by_cases e : i = x
  · rw [if_pos e, if_pos hi, if_pos e.symm]
    rfl
  · rw [if_neg e, if_neg (fun z => e z.symm)]
def Ap (x p ka sa wa : Addr) : Prop := x ≠ p ∧ x ≠ ka ∧ x ≠ sa ∧ x ≠ wa
def cs0 : List Int := List.replicate 5 1 ++ List.replicate 91 0
open ND (aftN due stepA due_snoc due_len getD_in) in
theorem aft_due {f : Nat → List Int} {ws : List (Nat × List Int)} (hf : ∀ s, (f s).length = 8) (hw : ∀ w ∈ ws, w.2.length = 8) : ∀ i, i ≤ ws.length → aftN f ws (fun _ => 8) i = due f (ws.take i)
  | 0, _ => rfl
  | i + 1, h => by
    have hi : i < ws.length := by omega
    have hwi := List.getElem?_eq_getElem hi
    have e : ws.take (i + 1) = ws.take i ++ [ws[i]] := by rw [List.take_add_one, hwi]; rfl
    rw [e, due_snoc]
    show stepA (aftN f ws (fun _ => 8) i) (ws.getD i (0, [])) 8 = _
    rw [aft_due hf hw i (by omega), getD_in hwi]
    have h8 := hw _ (List.getElem_mem hi)
    have hd := due_len hf (ws := ws.take i) (fun w hm => hw w (List.mem_of_mem_take hm)) (ws[i]).1
    unfold stepA
    rw [List.take_of_length_le (l := (ws[i]).2) (by omega), List.drop_eq_nil_of_le (by omega), List.append_nil]

theorem q_mk3 {CT CH CS : Addr} {spT spH spS : Sp} {E1 E2 E3 : XK} {σ : L2.St} {H : Hp} {t3 ta tt tn tu : TE} {v3 va vn vu : V} {xs : List V} {i : Nat} {tz : TS} {D : Ends} (h3 : Ev t3 σ H v3) (ha : ∀ H1, Ex H H1 → Ev ta σ H1 va) (ht : ∀ H1, Ex H H1 → EvU tt σ H1 xs) (hn : ∀ H1, Ex H H1 → Ev tn σ H1 vn)
    (k : ∀ tb hp dh H1 H2, H tb = none → H1 tb = some (.tup xs) → Ex H H1 → H1 hp = none → H2 hp = some (.ins CH dh []) → Ex H1 H2 → spH [.ref hp, va, .ref tb, vn] H2 (fun v H3 => v = .non ∧ ∃ H4, H4 = H3 ∧ Ev tu σ H3 vu ∧ ∀ H5 sp ds H6, Ex H3 H5 → H5 sp = none → H6 sp = some (.ins CS ds []) → Ex H5 H6 → spS [.ref sp, vu] H6 (fun v H7 => v = .non ∧ ∀ q dq H8, H7 q = none → H8 q = some (.ins CT dq []) → Ex H7 H8 → spT [.ref q, v3, .ref hp, .ref sp] H8 (fun v H9 => v = .non ∧ tz D (σ.set i (some (.ref q))) H9) E1) E3) E2)
    (mH : ∀ {vs : List V} {A : Hp} {Q Q' : VK}, spH vs A Q E2 → (∀ v B, Q v B → Q' v B) → spH vs A Q' E2) (mS : ∀ {vs : List V} {A : Hp} {Q Q' : VK}, spS vs A Q E3 → (∀ v B, Q v B → Q' v B) → spS vs A Q' E3) : tSeq (tAsg (tMake CT spT [] E1 (tCons t3 (tCons (tMake CH spH [] E2 (tCons ta (tCons tt (tCons tn tNil)))) (tCons (tMake CS spS [] E3 (tCons tu tNil)) tNil)))) (gName i)) tz D σ H :=
  h3 H (Ex.refl _) _ fun H1 e1 => ha H1 e1 H1 (Ex.refl _) _ fun H2 e2 => ht H2 (e1.trans e2) H2 (Ex.refl _) _ fun tb H3 htb e3 h3x => hn H3 ((e1.trans e2).trans e3) H3 (Ex.refl _) _ fun H4 e4 hp dh hhp hdh hne => by
    have e14 := ((e1.trans e2).trans e3).trans e4
    have h := k tb hp dh H4 (upd (upd H4 dh (.own hp)) hp (.ins CH dh [])) (fresh_back (e1.trans e2) htb) (e4 _ _ h3x) e14 hhp upd_same ((Ex.new hdh).mut hhp)
    refine mH h fun v B hb => ?_
    obtain ⟨hv, _, _, hu, hk⟩ := hb
    refine ⟨hv, hu B (Ex.refl _) _ fun B1 b1 sp ds hsp hds hne2 => ?_⟩
    have h2 := hk B1 sp ds (upd (upd B1 ds (.own sp)) sp (.ins CS ds [])) b1 hsp upd_same ((Ex.new hds).mut hsp)
    refine mS h2 fun v B2 hb2 => ⟨hb2.1, fun q dq hq hdq hne3 => ?_⟩
    exact hb2.2 q dq (upd (upd B2 dq (.own q)) q (.ins CT dq [])) hq upd_same ((Ex.new hdq).mut hq)
theorem spHin_mono {c : Cc} {E : XK} {vs : List V} {A : Hp} {Q Q' : VK} (h : NT.spHin c vs A Q E) (m : ∀ v B, Q v B → Q' v B) : NT.spHin c vs A Q' E := by
  obtain ⟨p, tb, dx, g, n, h1, h2, h3⟩ := h
  exact ⟨p, tb, dx, g, n, h1, h2, fun H1 a b => m _ _ (h3 H1 a b)⟩
theorem spSin_mono {K : PySem.W.Frag} {C : Addr} {E : XK} {vs : List V} {A : Hp} {Q Q' : VK} (h : NS.spInit K C vs A Q E) (m : ∀ v B, Q v B → Q' v B) : NS.spInit K C vs A Q' E := by
  obtain ⟨p, u, dx, cs, h1, h2, h3, h4, h5⟩ := h
  exact ⟨p, u, dx, cs, h1, h2, h3, h4, fun cl hl H1 a b c d e => m _ _ (h5 cl hl H1 a b c d e)⟩

theorem dk_joinX {C : Addr} {G H H1 : Hp} {p ka sa wa : Addr} {n : Nat} {d : Dk} (D : DK C G H p ka sa wa n d) (e : Ex H H1) (X : Addr → Prop) (hX : ∀ a, X a → H a = none) : ∃ G', St G H G' H1 ∧ DK C G' H1 p ka sa wa n d ∧ (∀ a o, H a = none → ¬ X a → H1 a = some o → G' a = some o) ∧ ∀ a, X a → G' a = none := by
  have ge := D.g.trans e
  have gg : Ex G (grow G H H1 X) := grow_ex
  obtain ⟨ap, ak, as, aw⟩ := D.al
  refine ⟨grow G H H1 X, ⟨gg, fun a h g => grow_no h g, fun a h z => h (fresh_back e z)⟩, ?_, fun a o h x h1 => grow_new (fresh_back D.g h) h x h1, fun a x => grow_X x (fresh_back D.g (hX a x))⟩
  exact ⟨grow_sub ge, grow_no ap D.gp, grow_no ak D.gk, grow_no as D.gs, grow_no aw D.gw, D.nks, D.nkw, D.nsw, let ⟨dx, h⟩ := D.o; ⟨dx, e _ _ h⟩, D.k.ex gg e, D.s.ex gg e, D.w.ex gg e, D.n0, D.n1, D.wl, D.ok, D.kz⟩
section
variable {σ : L2.St} {H : Hp} {t : TT} {tu tw tz : TS} {D : Ends}
theorem q_ifK {b : Bool} (J : L2.St → Hp → Prop) (h : EvT t σ H b) (fin : ∀ σ' H', J σ' H' → tz D σ' H') (h1 : b = true → ∀ H1, Ex H H1 → (∀ σ' H', J σ' H' → tz D σ' H') → tu { D with nx := tz D } σ H1) (h2 : b = false → ∀ H1, Ex H H1 → (∀ σ' H', J σ' H' → tz D σ' H') → tw { D with nx := tz D } σ H1) : tSeq (tIfS t tu tw) tz D σ H := q_if h (fun a H1 e => h1 a H1 e fin) (fun a H1 e => h2 a H1 e fin)
end
def pickF (z : Int) : Int := if z = 0 then 0 else if z = 2 then 2 else 1
theorem pick4 {z : Int} (h0 : 0 ≤ z) (h : z < 4) : 0 ≤ pickF z ∧ pickF z ≤ 2 ∧ atI (([0, 1, 2, 1] : List Int).map V.int) z = some (.int (pickF z)) := by
  obtain ⟨k, rfl⟩ : ∃ k : Nat, z = k := ⟨z.toNat, by omega⟩
  rcases (by omega : k = 0 ∨ k = 1 ∨ k = 2 ∨ k = 3) with rfl | rfl | rfl | rfl <;> exact ⟨by decide, by decide, rfl⟩
def Bw (ns : List Int) : Prop := ∀ z ∈ ns, 0 ≤ z ∧ z < 2 ^ 150
structure CsI (cs : List Int) (i : Nat) : Prop where
  n : cs.length = 96
  p : ∀ x, 0 ≤ cv cs x
  u : ∀ x, cv cs x ≤ 2
  o : ∀ x, x < 5 → cv cs x = 1
  z : ∀ x, 5 + i ≤ x → cv cs x = 0
theorem cs0_I : CsI cs0 0 := by
  have h96 : ∀ x, 96 ≤ x → cv cs0 x = 0 := fun x hx => by
    unfold NS.cv
    rw [List.getD_eq_getElem?_getD, List.getElem?_eq_none (by show cs0.length ≤ x; exact hx)]
    rfl
  have hlt : ∀ x, x < 96 → cv cs0 x = if x < 5 then 1 else 0 := by decide +kernel
  refine ⟨rfl, fun x => ?_, fun x => ?_, fun x hx => ?_, fun x hx => ?_⟩
  · by_cases h : x < 96
    · rw [hlt x h]
      split <;> decide
    · rw [h96 x (by omega)]
      exact Int.le_refl _
  · by_cases h : x < 96
    · rw [hlt x h]
      split <;> decide
    · rw [h96 x (by omega)]
      decide
  · rw [hlt x (by omega), if_pos hx]
  · by_cases h : x < 96
    · rw [hlt x h, if_neg (by omega)]
    · exact h96 x (by omega)
theorem CsI.set {cs : List Int} {i : Nat} {m : Int} (h : CsI cs i) (h0 : 0 ≤ m) (h2 : m ≤ 2) (hi : 5 + i < 96) : CsI (cs.set (5 + i) m) (i + 1) := by
  have e := fun x => cv_set (cs := cs) (i := 5 + i) (v := m) (by rw [h.n]; exact hi) x
  refine ⟨by rw [List.length_set]; exact h.n, fun x => ?_, fun x => ?_, fun x hx => ?_, fun x hx => ?_⟩
  · rw [e]
    split
    · exact h0
    · exact h.p x
  · rw [e]
    split
    · exact h2
    · exact h.u x
  · rw [e, if_neg (by omega)]
    exact h.o x hx
  · rw [e, if_neg (by omega)]
    exact h.z x (by omega)
structure CsK (cs : List Int) : Prop where
  n : cs.length = 96
  p : ∀ x, 0 ≤ cv cs x
  u : ∀ x, cv cs x ≤ 2
  o : ∀ x, x < 6 → cv cs x = 1
  z : ∀ x, 30 ≤ x → cv cs x = 0
theorem CsI.five {cs : List Int} (h : CsI cs 25) : CsK (cs.set 5 1) := by
  have e := fun x => cv_set (cs := cs) (i := 5) (v := 1) (by rw [h.n]; decide) x
  refine ⟨by rw [List.length_set]; exact h.n, fun x => ?_, fun x => ?_, fun x hx => ?_, fun x hx => ?_⟩
  · rw [e]
    split
    · decide
    · exact h.p x
  · rw [e]
    split
    · decide
    · exact h.u x
  · rw [e]
    split
    · rfl
    · exact h.o x (by omega)
  · rw [e, if_neg (by omega)]
    exact h.z x hx
/-- every word of the sectors is bounded -/
def Bf (f : Nat → List Int) : Prop := ∀ s, Bw (f s)
def Lw (g : Int) (w : Nat × List Int) : Prop := 4 ≤ w.1 → w.1 < 20 → cellv w.2 7 < g
def Lf (g : Int) (f : Nat → List Int) : Prop := ∀ s, 4 ≤ s → s < 20 → cellv (f s) 7 < g
def Bs (g : Int) (ws : List (Nat × List Int)) : Prop := ∀ w ∈ ws, Bw w.2 ∧ Lw g w
theorem Bs.app {g : Int} {a b : List (Nat × List Int)} (h : Bs g a) (k : Bs g b) : Bs g (a ++ b) := fun w hw => (List.mem_append.mp hw).elim (h w) (k w)
theorem Bs.one {g : Int} {s : Nat} {ns : List Int} (h : Bw ns) (h2 : 4 ≤ s → s < 20 → cellv ns 7 < g) : Bs g [(s, ns)] := fun w hw => by rw [List.mem_singleton.mp hw]; exact ⟨h, h2⟩
theorem Bs.wb {g : Int} {i : Nat} {ns : List Int} (h : Bw ns) (h5 : 5 ≤ i) : Bs g (wb i ns 4) := fun w hw => by
  unfold K24.wb at hw
  obtain ⟨j, _, rfl⟩ := List.mem_map.mp hw
  exact ⟨fun z hz => h z (List.mem_of_mem_drop (List.mem_of_mem_take hz)), fun _ h => absurd h (by show ¬ 4 * i + j < 20; omega)⟩
theorem Bf.due {g : Int} : ∀ (ws : List (Nat × List Int)) (f : Nat → List Int), Bf f → Bs g ws → Bf (ND.due f ws)
  | [], f, h, _ => h
  | w :: ws, f, h, g => Bf.due ws (LP.fset f w.1 w.2) (fun s => by
      unfold LP.fset
      split
      · exact (g w (List.mem_cons_self ..)).1
      · exact h s) fun x hx => g x (List.mem_cons_of_mem _ hx)
theorem Lf.due {g : Int} : ∀ (ws : List (Nat × List Int)) (f : Nat → List Int), Lf g f → Bs g ws → Lf g (ND.due f ws)
  | [], f, h, _ => h
  | w :: ws, f, h, g => Lf.due ws (LP.fset f w.1 w.2) (fun s h4 h20 => by
      unfold LP.fset
      split
      · rename_i e
        exact (g w (List.mem_cons_self ..)).2 (by omega) (by omega)
      · exact h s h4 h20) fun x hx => g x (List.mem_cons_of_mem _ hx)
theorem bw_lb {a b : Int} : Bw (lbF a b) := fun z hz => by
  have := lbF_b z hz
  omega
def spLst24 (c : Cc) (Pw : Addr) : Sp := fun vs H Q _ => ∃ (tp : Addr) (ts : List Int) (g : Int), vs = [.ref tp, .int g] ∧ H tp = some (.lst (ts.map V.int)) ∧ Good ts ∧ 1 ≤ g ∧ g < 2 ^ 120 ∧ Tab H Pw ∧
  ∀ (G H' : Hp) (q : Addr) (k : Sk) (cs : List Int), Ex H G → ST c G H' q k ⟨0, cs, fun _ => none⟩ → k.n = 96 → k.g = g → k.hs = NS.pos cs → CsK cs → Bf k.f → Lf g k.f → k.tb = k.th → G k.th = some (.tup [.int 5, .int 1]) → Q (.ref q) H'
section
variable {σ : L2.St} {H : Hp} {D : Ends} {sp : Sp} {E : XK} {t1 t2 t3 : TE} {v1 v2 : V} {xs : List V}
theorem s_drop3L (h1 : Ev t1 σ H v1) (h2 : Ev t2 σ H v2) (h3 : EvL t3 σ H xs) (k : ∀ l H1, H l = none → Ex H H1 → H1 l = some (.lst xs) → sp [v1, v2, .ref l] H1 (fun _ H2 => D.nx σ H2) E) : tDrop (tCall sp [] E (tCons t1 (tCons t2 (tCons t3 tNil)))) D σ H :=
  h1 H (Ex.refl _) _ fun H1 e1 => h2 H1 e1 _ fun H2 e2 => h3 H2 (e1.trans e2) _ fun l H3 hl e3 hx => by
    have := k l H3 (fresh_back (e1.trans e2) hl) ((e1.trans e2).trans e3) hx
    simp only [List.append_nil]
    exact this
theorem s_m2LD {C p dx : Addr} {m : Str} {ta : TE} {fs : List (Str × V)} (ha : Ev ta σ H (.ref p)) (hi : H p = some (.ins C dx fs)) (hl : fs.lookup m = none) (h1 : Ev t1 σ H v1) (h3 : EvL t3 σ H xs) (k : ∀ l H1, H l = none → Ex H H1 → H1 l = some (.lst xs) → sp [.ref p, v1, .ref l] H1 (fun _ H2 => D.nx σ H2) E) : tDrop (tMeth C m sp [] E ta (tCons t1 (tCons t3 tNil))) D σ H := s_m2L ha hi hl h1 h3 k
end
section
variable {P : Program} {w : World} {K : PySem.W.Frag} {mg : Str → Option Value} {base : Heap} {c : Cc} {CN CO Pw : Addr}
theorem ok_lst24 {f f1 f2 f3 f4 f5 f6 f7 fA fB fP : Addr} {fd fd1 fd2 fd3 fd4 fd5 fd6 fd7 fdA fdB fdP : FuncData} (F : Fun K "_law_store" "_law_store" sLst f fd)
    (FA : Fun K "_law_at" "_law_at" sAt fA fdA) (GA : FnOk P w K mg base CX0 1 fA fdA ["tape", "k"] (spCel K)) (bA : Binds K fdA ["tape", "k"] []) (gA : mg "_law_at" = some (.ref fA))
    (FLb : Fun K "_law_block" "_law_block" sLb fB fdB) (GLb : FnOk P w K mg base CX0 1 fB fdB ["number", "extra"] spLb) (bLb : Binds K fdB ["number", "extra"] []) (gLb : mg "_law_block" = some (.ref fB))
    (FLpb : Fun K "_law_put_block" "_law_put_block" sLpb fP fdP) (GLpb : FnOk P w K mg base CX0 4 fP fdP ["disk", "number", "words"] (spLpb c.D Pw)) (bLpb : Binds K fdP ["disk", "number", "words"] []) (gLpb : mg "_law_put_block" = some (.ref fP))
    (MD : L2.Mk K c.D f1) (Gdinit : FnOk P w K mg base (L2.CX P w) 3 f1 fd1 ["self", "blocks"] (ND.spInit c.D)) (bdinit : Binds K fd1 ["self", "blocks"] [])
    (MH : L2.Mk K c.H f2) (Ghinit : FnOk P w K mg base CX0 1 f2 fd2 ["self", "generation", "table", "blocks"] (NT.spHin c)) (bhinit : Binds K fd2 ["self", "generation", "table", "blocks"] []) (MS : L2.Mk K c.S f3) (Gsinit : FnOk P w K mg base CX0 1 f3 fd3 ["self", "uses"] (NS.spInit K c.S)) (bsinit : Binds K fd3 ["self", "uses"] [])
    (MT : L2.Mk K c.T f4) (Gtinit : FnOk P w K mg base CX0 1 f4 fd4 ["self", "disk", "head", "space"] (NT.spTin c)) (btinit : Binds K fd4 ["self", "disk", "head", "space"] []) (Guse_reserve : FnOk P w K mg base CX0 1 f5 fd5 ["self", "reserve"] (NT.spUr c)) (buse_reserve : Binds K fd5 ["self", "reserve"] []) (muse_reserve : Meth K c.T "use_reserve" f5)
    (GD_write : FnOk P w K mg base (L2.CX P w) 3 f6 fd6 ["self", "sector", "words"] (ND.spWrite c.D CN CO Pw)) (bD_write : Binds K fd6 ["self", "sector", "words"] []) (mD_write : Meth K c.D "write" f6)
    (Gflush : FnOk P w K mg base (L2.CX P w) 2 f7 fd7 ["self"] (ND.spFlush c.D CO)) (bflush : Binds K fd7 ["self"] []) (mflush : Meth K c.D "flush" f7)
    (T : Txt mg) (TT : TxT mg K c.T) (TH : TxH mg K c.H) (TS : NS.Txt mg K c.S) (TD : ND.Txt mg K c.D) : FnOk P w K mg base CX0 6 f fd ["tape", "generation"] (spLst24 c Pw) := by
  refine F.ok (k := 5) scLst (fun vs H Q E h => ?_) (fun cdv A outer s H vs Q E hr h => ?_)
  · obtain ⟨tp, ts, g, rfl, _⟩ := h
    rfl
  · obtain ⟨tp, ts, g, rfl, htp, hg, g1, g2, hTw, qq⟩ := h
    refine ⟨_, (pss_cons (ps_set (i := 2) scLst.nd rfl (Or.inl rfl) (pe_make MD Gdinit (hr.mono (by decide)) (by rfl) TD.mgC bdinit .nil passL (pa_cons pe_int pa_nil)))
      (pss_cons (ps_set (i := 3) scLst.nd rfl (Or.inl rfl) (pe_op op_cat (pe_op op_rep (pe_lst (pa_cons pe_int pa_nil)) pe_int) (pe_op op_rep (pe_lst (pa_cons pe_int pa_nil)) pe_int)))
      (pss_cons (ps_for PassesOwn.never rfl (pi_range2 (by rfl) T.range (pa_cons pe_int (pa_cons pe_int pa_nil))) (pg_name (i := 4) scLst.nd rfl (Or.inl rfl)) (pss_cons (ps_asg (pe_ix ix_list (pe_lst (pa_cons pe_int (pa_cons pe_int (pa_cons pe_int (pa_cons pe_int pa_nil))))) (pe_op op_mod (pe_op op_add (pe_call GA (hr.mono (by decide)) (by rfl) gA FA.kp bA .nil pass0 (pa_cons (pv 0) (pa_cons (pe_op op_add pe_int (pe_op op_mod (pv 4) pe_int)) pa_nil))) (pv 4)) pe_int) (fun _ _ => rfl)) (pg_sub (pv 3) (pv 4) set_list))
      (pss_one (ps_expr (pe_call GLpb (hr.mono (by decide)) (by rfl) gLpb FLpb.kp bLpb .nil pass0 (pa_cons (pv 2) (pa_cons (pv 4) (pa_cons (pe_call GLb (hr.mono (by decide)) (by rfl) gLb FLb.kp bLb .nil pass0 (pa_cons (pv 4) (pa_cons (pe_call GA (hr.mono (by decide)) (by rfl) gA FA.kp bA .nil pass0 (pa_cons (pv 0) (pa_cons pe_int pa_nil))) pa_nil))) pa_nil))))))))
      (pss_cons (ps_asg pe_int (pg_sub (pv 3) pe_int set_list))
      (pss_cons (ps_set (i := 5) scLst.nd rfl (Or.inl rfl) (pe_op op_mod (pe_call GA (hr.mono (by decide)) (by rfl) gA FA.kp bA .nil pass0 (pa_cons (pv 0) (pa_cons pe_int pa_nil))) pe_int))
      (pss_cons (ps_set (i := 6) scLst.nd rfl (Or.inl rfl) (pe_lst (pa_cons (pv 1) (pa_cons pe_int (pa_cons pe_int (pa_cons pe_int (pa_cons pe_int (pa_cons pe_int (pa_cons pe_int (pa_cons (pv 1) pa_nil))))))))))
      (pss_cons (ps_expr (pe_meth (pv 2) TD.cl mD_write GD_write (hr.mono (by decide)) bD_write .nil passL (pa_cons (pe_op op_mod (pv 1) pe_int) (pa_cons (pv 6) pa_nil))))
      (pss_cons (ps_if (PW.pt (pw_and (pt_cmpR op_gt (pv 5) pe_int (nomark _)) (pw_and1 (pt_cmpR op_gt (pv 1) pe_int (nomark _))))) (pss_one (ps_expr (pe_meth (pv 2) TD.cl mD_write GD_write (hr.mono (by decide)) bD_write .nil passL (pa_cons (pe_op op_sub pe_int (pe_op op_mod (pv 1) pe_int)) (pa_cons (pe_lst (pa_cons (pe_op op_sub (pv 1) (pe_op op_mod (pv 5) pe_int)) (pa_cons pe_int (pa_cons pe_int (pa_cons pe_int (pa_cons pe_int (pa_cons pe_int (pa_cons pe_int (pa_cons (pe_op op_sub (pe_op op_sub (pv 1) pe_int) (pe_op op_fdiv (pv 5) pe_int)) pa_nil))))))))) pa_nil))))) pss_nil)
      (pss_cons (ps_for PassesOwn.never rfl (pi_range1 (by rfl) T.range (pa_cons (pe_op op_mod (pe_call GA (hr.mono (by decide)) (by rfl) gA FA.kp bA .nil pass0 (pa_cons (pv 0) (pa_cons pe_int pa_nil))) pe_int) pa_nil)) (pg_name (i := 7) scLst.nd rfl (Or.inl rfl)) (pss_one (ps_expr (pe_meth (pv 2) TD.cl mD_write GD_write (hr.mono (by decide)) bD_write .nil passL (pa_cons (pe_op op_add pe_int (pe_op op_mul (pv 7) pe_int)) (pa_cons (pe_lst (pa_cons (pv 7) (pa_cons pe_int (pa_cons pe_int (pa_cons pe_int (pa_cons pe_int (pa_cons pe_int (pa_cons pe_int (pa_cons (pe_callB (call_max2 rfl) (by rfl) T.max (by decide +kernel) (pa_cons pe_int (pa_cons (pe_op op_sub (pe_op op_sub (pv 1) pe_int) (pv 7)) pa_nil))) pa_nil))))))))) pa_nil))))))
      (pss_cons (ps_expr (pe_meth0 (pv 2) TD.cl mflush Gflush (hr.mono (by decide)) bflush .nil passL))
      (pss_cons (ps_set (i := 8) scLst.nd rfl (Or.inl rfl) (pe_make MT Gtinit (hr.mono (by decide)) (by rfl) TT.mgC btinit .nil pass0 (pa_cons (pv 2) (pa_cons (pe_make MH Ghinit (hr.mono (by decide)) (by rfl) TH.mgC bhinit .nil pass0 (pa_cons (pv 1) (pa_cons (pe_tup (pa_cons pe_int (pa_cons pe_int pa_nil))) (pa_cons pe_int pa_nil)))) (pa_cons (pe_make MS Gsinit (hr.mono (by decide)) (by rfl) TS.mgC bsinit .nil pass0 (pa_cons (pv 3) pa_nil)) pa_nil)))))
      (pss_cons (ps_expr (pe_meth (pv 8) TT.cl muse_reserve Guse_reserve (hr.mono (by decide)) buse_reserve .nil pass0 (pa_cons pe_int pa_nil)))
      (pss_one (ps_ret (pv 8))))))))))))))), ?_⟩
    have dno : ∀ {n : Nat} {ka sa wa : Addr} {pw : Bool} {bf : Option Nat} {m : Str}, m = "flush" ∨ m = "write" → (ND.dfl n ka sa wa pw bf).lookup m = Option.none := fun h => by
      rcases h with rfl | rfl <;> exact ND.d_no ⟨by decide +kernel, by decide +kernel, by decide +kernel, by decide +kernel, by decide +kernel, by decide +kernel⟩
    have cc : ∀ {H' : Hp} {z : Int} {σ : L2.St} {tk : TE} (j : Nat), Ex H H' → z = (j : Int) → σ[0]? = some (some (.ref tp)) → Ev tk σ H' (.int z) → Ev (tCall (spCel K) [] E0 (tCons (tVar 0) (tCons tk tNil))) σ H' (.int (cellv ts j)) :=
      fun j e ez h0 hk => ev_call (ea_cons (ev_var h0) (ea_cons hk ea_nil)) (sv_cell (sq_of (e _ _ htp)) ez)
    refine q_make (ea_cons ev_c ea_nil) fun p dx B5 B6 hp4 hp5 b5 hp6 b6 => ⟨B5, p, dx, 96, rfl, b6, hp5, hp6, by decide, by decide, fun G1 ka sa wa B7 S7 fr7 D7 => ⟨rfl, ?_⟩⟩
    have eHG1 : Ex H G1 := b5.trans S7.g
    refine q_asgL (el_is (el_catL (el_rep1 (z := 5) (el_lst (ea_cons ev_c ea_nil) (by decide)) ev_c (by decide) (by decide)) (el_rep1 (z := 91) (el_lst (ea_cons ev_c ea_nil) (by decide)) ev_c (by decide) (by decide)) (by decide)) (show _ = (cs0.map V.int : List V) from rfl)) fun na B9 hna b9 h9 => ?_
    have D9 := D7.ex b9
    have apn : Ap na p ka sa wa := ⟨fun z => D7.al.1 (by rw [← z]; exact hna), fun z => D7.al.2.1 (by rw [← z]; exact hna), fun z => D7.al.2.2.1 (by rw [← z]; exact hna), fun z => D7.al.2.2.2 (by rw [← z]; exact hna)⟩
    have gna0 : G1 na = none := fresh_back D7.g hna
    have kmut : ∀ {G : Hp} {B : Hp} {d : Dk} {x : Addr} {o : HO}, DK c.D G B p ka sa wa 96 d → G x = none → Ap x p ka sa wa → DK c.D G (L2.upd B x o) p ka sa wa 96 d := fun D gx ap => NT.dk_bx D gx ap (Bx.of (Ex.refl _)).up
    have alB : ∀ {B : Hp} {x : Addr} {o : HO}, B x = some o → B x ≠ none := fun h z => by rw [h] at z; cases z
    -- a write
    have wr : ∀ {G B : Hp} {d : Dk} {s : Nat} {ns : List Int} {u : Addr} {Q : VK} {E : XK}, Ex G1 G → DK c.D G B p ka sa wa 96 d → d.pw = true → d.bf = none → d.ws.length < 300 → B u = some (.lst (ns.map V.int)) → ns.length = 8 → (∀ z ∈ ns, 0 ≤ z) → s < 384 → (∀ G' B', St G B G' B' → (∀ a o, B a = some o → a ≠ p → a ≠ sa → a ≠ wa → B' a = some o) → DK c.D G' B' p ka sa wa 96 ⟨d.kept, d.ws ++ [(s, ns)], true, none⟩ → Q .non B') → ND.spWrite c.D CN CO Pw [.ref p, .int (s : Int), .ref u] B Q E := by
      intro G B d s ns u Q E gg D pw bf hwl hu h8 hnn hs hk
      obtain ⟨dx1, ho1⟩ := D.o
      refine ⟨G, p, ka, sa, wa, 96, d, (s : Int), u, ns.map V.int, rfl, D, hu, ND.kd_ints _, hTw.mono (eHG1.trans gg), hwl, (fun z => by rw [z, ho1] at hu; cases hu), fun hno => absurd ⟨⟨by omega, by omega⟩, by rw [List.length_map]; exact h8, ND.ints_wd hnn⟩ hno, fun _ s' ns' hs' hs4 hns h8' hnn' G2 H4 S4 fr4 D4 => ?_, fun hno _ => absurd ⟨pw, by rw [bf]; exact fun z => by cases z⟩ hno⟩
      obtain rfl : s' = s := by omega
      obtain rfl := ints_inj hns
      rw [pw, show d.bf.map (· - 1) = none by rw [bf]; rfl] at D4
      exact hk G2 H4 S4 fr4 D4
    refine q_forR2 (lo := 5) (n := 30) (ea_cons ev_c (ea_cons ev_c ea_nil)) ⟨by decide, by decide, by decide, by decide⟩ (fun i σ' B => ∃ G2 cs d y4, σ' = [some (.ref tp), some (.int g), some (.ref p), some (.ref na), y4, none, none, none, none] ∧ DK c.D G2 B p ka sa wa 96 d ∧ Ex G1 G2 ∧ d.kept = (fun _ => LP.Z8) ∧ d.pw = true ∧ d.bf = none ∧ d.ws.length = 4 * i ∧ Bs g d.ws ∧ B na = some (.lst (cs.map V.int)) ∧ G2 na = none ∧ CsI cs i) (fun B eB => ⟨G1, cs0, _, none, rfl, D9.ex eB, Ex.refl _, rfl, rfl, rfl, rfl, (fun w hw => nomatch hw), eB _ _ h9, gna0, cs0_I⟩) ?_ ?_
    · rintro i σ' B hi ⟨G2, cs, d, y4, rfl, D, gg, kp, pw, bf, wl, hbs, hnaB, gna, ci⟩
      have hcast : (5 : Int) + (i : Int) = ((5 + i : Nat) : Int) := by push_cast; rfl
      have hi25 : i < 25 := by omega
      have eHB : Ex H B := (eHG1.trans gg).trans D.g
      have ej : (1 : Int) + (5 + (i : Int)) % 5 = ((1 + (5 + i) % 5 : Nat) : Int) := by push_cast; omega
      obtain ⟨pm0, pm2, hat⟩ := pick4 (Int.emod_nonneg (cellv ts (1 + (5 + i) % 5) + (5 + (i : Int))) (show (4 : Int) ≠ 0 by decide)) (Int.emod_lt_of_pos _ (show (0 : Int) < 4 by decide))
      obtain ⟨mm, hmm⟩ : ∃ mm, mm = pickF ((cellv ts (1 + (5 + i) % 5) + (5 + (i : Int))) % 4) := ⟨_, rfl⟩
      rw [← hmm] at pm0 pm2 hat
      refine q_setL (j := 5 + i) (v := .int mm) hnaB (ev_opL1 (xs := ([0, 1, 2, 1] : List Int).map V.int) (el_lst (ea_cons ev_c (ea_cons ev_c (ea_cons ev_c (ea_cons ev_c ea_nil)))) (by decide)) (fun B b => ev_op (ev_op (cc (1 + (5 + i) % 5) (eHB.trans b) ej rfl (ev_op ev_c (ev_op (ev_var rfl) ev_c (rv_I (by show (0 : Int) < 5; decide))) rv_I0)) (ev_var rfl) rv_I0) ev_c (rv_I (by show (0 : Int) < 4; decide))) (fun _ _ hp _ => rv_ixL (sq_of hp) hat)) (ev_var rfl) (by rw [← hcast]; exact ev_var rfl) (by rw [List.length_map, ci.n]; omega) fun B1 b1 => ?_
      have D1 := kmut (o := .lst ((cs.map V.int).set (5 + i) (.int mm))) (D.ex b1) gna apn
      have n1 : (upd B1 na (.lst ((cs.map V.int).set (5 + i) (.int mm)))) na = some (.lst ((cs.set (5 + i) mm).map V.int)) := by rw [upd_same, List.map_set]
      generalize upd B1 na (.lst ((cs.map V.int).set (5 + i) (.int mm))) = B2 at D1 n1 ⊢
      have eHB2 : Ex H B2 := (eHG1.trans gg).trans D1.g
      refine s_drop3L (v1 := .ref p) (v2 := .int ((5 + i : Nat) : Int)) (xs := (lbF (5 + (i : Int)) (cellv ts 1)).map V.int) (ev_var rfl) (by rw [← hcast]; exact ev_var rfl) (el_call (vs := [.int (5 + (i : Int)), .int (cellv ts 1)]) (ea_cons (ev_var rfl) (ea_cons (cc 1 eHB2 rfl rfl ev_c) ea_nil)) (fun A a Q q' E' => ⟨5 + (i : Int), cellv ts 1, rfl, by omega, by omega, (hg.cell 1).1, (hg.cell 1).2, q'⟩)) fun l B3 hl b3 hx3 => ⟨G2, p, ka, sa, wa, 96, d, l, lbF (5 + (i : Int)) (cellv ts 1), 5 + i, rfl, D1.ex b3, hx3, lbF_len _ _, fun z hz => (lbF_b z hz).1, by omega, pw, bf, by omega, hTw.mono (eHG1.trans gg), fun G3 B4 S4 fr4 D4 => ?_⟩
      have n4 : B4 na = some (.lst ((cs.set (5 + i) mm).map V.int)) := fr4 _ _ (b3 _ _ n1) apn.1 apn.2.2.1 apn.2.2.2
      refine ⟨G3, cs.set (5 + i) mm, _, _, rfl, D4, gg.trans S4.g, kp, rfl, rfl, ?_, hbs.app (Bs.wb bw_lb (by omega)), n4, S4.n na (alB (b3 _ _ n1)) gna, ci.set pm0 pm2 (by omega)⟩
      show (d.ws ++ wb (5 + i) _ 4).length = _
      unfold wb
      rw [List.length_append, wl, List.length_map, List.length_range]
      omega
    · rintro σ' B ⟨G2, cs, d, y4, rfl, D, gg, kp, pw, bf, wl, hbs, hnaB, gna, ci⟩
      have wl : d.ws.length = 4 * 25 := wl
      have ci : CsI cs 25 := ci
      refine q_setL (j := 5) (v := .int 1) hnaB ev_c (ev_var rfl) ev_c (by rw [List.length_map, ci.n]; decide) fun B1 b1 => ?_
      have D1 := kmut (o := .lst ((cs.map V.int).set 5 (.int 1))) (D.ex b1) gna apn
      have n1 : (upd B1 na (.lst ((cs.map V.int).set 5 (.int 1)))) na = some (.lst ((cs.set 5 1).map V.int)) := by rw [upd_same, List.map_set]
      generalize upd B1 na (.lst ((cs.map V.int).set 5 (.int 1))) = B2 at D1 n1 ⊢
      have ck := ci.five
      generalize cs.set 5 1 = cs2 at n1 ck
      have eHB2 : Ex H B2 := (eHG1.trans gg).trans D1.g
      have o0 := Int.emod_nonneg (cellv ts 2) (show (4 : Int) ≠ 0 by decide)
      have o4 := Int.emod_lt_of_pos (cellv ts 2) (show (0 : Int) < 4 by decide)
      obtain ⟨ot, hot⟩ : ∃ ot, ot = cellv ts 2 % 4 := ⟨_, rfl⟩
      rw [← hot] at o0 o4
      refine q_asg (v := .int ot) (ev_is (ev_op (cc 2 eHB2 rfl rfl ev_c) ev_c (rv_I (by show (0 : Int) < 4; decide))) (by rw [hot])) fun B3 b3 => ?_
      refine q_asgL (xs := ([g, 5, 1, 4, 96, 0, 0, g] : List Int).map V.int) (el_lst (ea_cons (ev_var rfl) (ea_cons ev_c (ea_cons ev_c (ea_cons ev_c (ea_cons ev_c (ea_cons ev_c (ea_cons ev_c (ea_cons (ev_var rfl) ea_nil)))))))) (by simp)) fun hd B4 hhd b4 hhx => ?_
      have D4 := D1.ex (b3.trans b4)
      obtain ⟨dx4, ho4⟩ := D4.o
      have gm0 := Int.emod_nonneg g (show (2 : Int) ≠ 0 by decide)
      have gm2 := Int.emod_lt_of_pos g (show (0 : Int) < 2 by decide)
      have hdw : ∀ z ∈ ([g, 5, 1, 4, 96, 0, 0, g] : List Int), 0 ≤ z ∧ z < 2 ^ 150 := fun z hz => by
        simp only [List.mem_cons, List.not_mem_nil, or_false] at hz
        rcases hz with rfl | rfl | rfl | rfl | rfl | rfl | rfl | rfl <;> omega
      refine q_m (vs := [.int (((g % 2).toNat : Nat) : Int), .ref hd]) (ev_var rfl) ho4 (dno (.inr rfl)) (ea_cons (ev_is (ev_op (ev_var rfl) ev_c (rv_I (by show (0 : Int) < 2; decide))) (by congr 1; omega)) (ea_cons (ev_var rfl) ea_nil)) fun B5' b5' => wr gg (D4.ex b5') pw bf (by omega) (b5' _ _ hhx) rfl (fun z hz => (hdw z hz).1) (by omega) fun G3 B6' S6 fr6 D6 => ?_
      have n6 : B6' na = some (.lst (cs2.map V.int)) := fr6 _ _ ((b3.trans (b4.trans b5')) _ _ n1) apn.1 apn.2.2.1 apn.2.2.2
      have gn6 : G3 na = none := S6.n na (alB ((b3.trans (b4.trans b5')) _ _ n1)) gna
      have gg3 := gg.trans S6.g
      have hbs6 : Bs g (d.ws ++ [((g % 2).toNat, [g, 5, 1, 4, 96, 0, 0, g])]) := hbs.app (Bs.one hdw (fun h _ => by omega))
      have wl6 : (d.ws ++ [((g % 2).toNat, [g, 5, 1, 4, 96, 0, 0, g])]).length ≤ 101 := by rw [List.length_append, wl]; exact Nat.le_refl _
      generalize (d.ws ++ [((g % 2).toNat, [g, 5, 1, 4, 96, 0, 0, g])]) = ws6 at D6 hbs6 wl6
      -- the other head
      refine q_ifK (b := decide (ot > 0) && decide (g > 2)) (fun σ' B => ∃ G ws, σ' = [some (.ref tp), some (.int g), some (.ref p), some (.ref na), y4, some (.int ot), some (.ref hd), none, none] ∧ DK c.D G B p ka sa wa 96 ⟨d.kept, ws, true, none⟩ ∧ Ex G1 G ∧ ws.length ≤ 102 ∧ Bs g ws ∧ B na = some (.lst (cs2.map V.int)) ∧ G na = none) (et_and (et_is (et_test (ev_op (ev_var rfl) ev_c rv_I0)) rfl) (fun _ => et_is (et_test (ev_op (ev_var rfl) ev_c rv_I0)) rfl)) ?_ (fun hb A1 a1 fin => ?_) (fun _ A1 a1 fin => fin _ _ ⟨G3, ws6, rfl, D6.ex a1, gg3, by omega, hbs6, a1 _ _ n6, gn6⟩)
      · rintro σ' B ⟨G4, ws, rfl, D7, gg4, wl7, hbs7, n7, gn7⟩
        have eHB7 : Ex H B := (eHG1.trans gg4).trans D7.g
        have m0 := Int.emod_nonneg (cellv ts 3) (show (4 : Int) ≠ 0 by decide)
        have m4 := Int.emod_lt_of_pos (cellv ts 3) (show (0 : Int) < 4 by decide)
        refine q_forR1 (n := cellv ts 3 % 4) (ea_cons (ev_op (cc 3 eHB7 rfl rfl ev_c) ev_c (rv_I (by show (0 : Int) < 4; decide))) ea_nil) ⟨by omega, by omega⟩ (fun j σ' B => ∃ G ws y7, σ' = [some (.ref tp), some (.int g), some (.ref p), some (.ref na), y4, some (.int ot), some (.ref hd), y7, none] ∧ DK c.D G B p ka sa wa 96 ⟨d.kept, ws, true, none⟩ ∧ Ex G1 G ∧ ws.length ≤ 102 + j ∧ Bs g ws ∧ B na = some (.lst (cs2.map V.int)) ∧ G na = none) (fun B eB => ⟨G4, ws, none, rfl, D7.ex eB, gg4, wl7, hbs7, eB _ _ n7, gn7⟩) ?_ ?_
        · rintro j σ' B hj ⟨G5, ws, y7, rfl, D8, gg5, wl8, hbs8, n8, gn8⟩
          obtain ⟨dx8, ho8⟩ := D8.o
          have hb8 : ∀ z ∈ ([(j : Int), 1, 1, 1, 1, 1, 1, if 0 < g - 1 - (j : Int) then g - 1 - (j : Int) else 0] : List Int), 0 ≤ z ∧ z < 2 ^ 150 := fun z hz => by
            simp only [List.mem_cons, List.not_mem_nil, or_false] at hz
            rcases hz with rfl | rfl | rfl | rfl | rfl | rfl | rfl | rfl <;> first | omega | (split <;> omega)
          refine s_m2LD (v1 := .int ((4 + j * 5 : Nat) : Int)) (xs := ([(j : Int), 1, 1, 1, 1, 1, 1, if 0 < g - 1 - (j : Int) then g - 1 - (j : Int) else 0] : List Int).map V.int) (ev_var rfl) ho8 (dno (.inr rfl)) (ev_is (ev_op ev_c (ev_op (ev_var rfl) ev_c (rv_I (.inr ⟨by decide, by decide⟩))) rv_I0) (by congr 1)) (el_lst (ea_cons (ev_var rfl) (ea_cons ev_c (ea_cons ev_c (ea_cons ev_c (ea_cons ev_c (ea_cons ev_c (ea_cons ev_c (ea_cons (ev_max2 ev_c (ev_op (ev_op (ev_var rfl) ev_c rv_I0) (ev_var rfl) rv_I0)) ea_nil)))))))) (by simp)) fun l A1 hl a1 hx => wr gg5 (D8.ex a1) rfl rfl (by show ws.length < 300; omega) hx rfl (fun z hz => (hb8 z hz).1) (by omega) fun G6 A2 S9 fr9 D9' => ?_
          exact ⟨G6, _, _, rfl, D9', gg5.trans S9.g, by rw [List.length_append]; show ws.length + 1 ≤ _; omega, hbs8.app (Bs.one hb8 (fun _ _ => by show (if 0 < g - 1 - (j : Int) then g - 1 - (j : Int) else 0) < g; split <;> omega)), fr9 _ _ (a1 _ _ n8) apn.1 apn.2.2.1 apn.2.2.2, S9.n na (alB (a1 _ _ n8)) gn8⟩
        · rintro σ' B ⟨G5, ws, y7, rfl, D8, gg5, wl8, hbs8, n8, gn8⟩
          obtain ⟨dx8, ho8⟩ := D8.o
          refine q_m (ev_var rfl) ho8 (dno (.inl rfl)) ea_nil fun B1 b1 => ⟨G5, p, ka, sa, wa, 96, _, rfl, D8.ex b1, fun hon G3 B2 sa2 wa2 S2 fr2 D2 => ?_, fun hno => absurd ⟨rfl, fun z => by cases z⟩ hno⟩
          have hK : ND.aftN d.kept ws (fun _ => 8) ws.length = ND.due d.kept ws := by
            rw [aft_due D8.kz (fun w hw => (D8.ok w hw).2) _ (Nat.le_refl _), List.take_length]
          replace D2 : DK c.D G3 B2 p ka sa2 wa2 96 ⟨ND.aftN d.kept ws (fun _ => 8) ws.length, [], true, none⟩ := D2
          rw [hK] at D2
          have hkz : Bf d.kept := fun s z hz => by
            rw [kp] at hz
            have hz : z ∈ LP.Z8 := hz
            unfold LP.Z8 at hz
            simp only [List.mem_cons, List.not_mem_nil, or_false, or_self] at hz
            rw [hz]
            decide
          have hbf : Bf (ND.due d.kept ws) := Bf.due _ _ hkz hbs8
          have hlz : Lf g d.kept := fun s _ _ => by
            rw [kp]
            show (0 : Int) < g
            omega
          have hlf : Lf g (ND.due d.kept ws) := Lf.due _ _ hlz hbs8
          generalize ND.due d.kept ws = ff at D2 hbf hlf
          have n2 : B2 na = some (.lst (cs2.map V.int)) := fr2 _ _ (b1 _ _ n8) apn.1 apn.2.1
          have gna3 : G3 na = none := S2.n na (alB (b1 _ _ n8)) gn8
          have ggG := gg5.trans S2.g
          have D4 := D2
          have n5 := n2
          refine q_mk3 (v3 := .ref p) (va := .int g) (vn := .int 96) (vu := .ref na) (xs := [.int 5, .int 1]) (ev_var rfl) (fun B b => ev_var rfl) (fun B b => eu_tup (ea_cons ev_c (ea_cons ev_c ea_nil)) (by decide)) (fun B b => ev_c) (fun tb hp dh B6 B7 htb htbx b6 hhp hhpx b7 => ⟨hp, tb, dh, g, 96, rfl, hhpx, fun B8 b8 hp8 => ⟨rfl, B8, rfl, ev_var rfl, fun B9 sp ds B10 b9 hsp hspx b10 => ?_⟩⟩) spHin_mono spSin_mono
          have hhp5 : B2 hp = none := fresh_back b6 hhp
          have x58 : Ex B2 B8 := b8.ex (b6.trans b7) hhp5
          have x510 := (x58.trans b9).trans b10
          refine ⟨sp, na, ds, cs2, rfl, hspx, sq_of (x510 _ _ n5), by rw [ck.n]; decide, fun cl hld B11 fr11 hcl0 hhl0 hch SS => ⟨rfl, fun q dq B12 hq hqx b12 => ?_⟩⟩
          have hsp5 : B2 sp = none := fresh_back (x58.trans b9) hsp
          have x511 : Ex B2 B11 := fun x o hx => fr11 x o (x510 _ _ hx) fun z => by rw [z, hsp5] at hx; cases hx
          have x512 := x511.trans b12
          have hcl5 : B2 cl = none := fresh_back x510 hcl0
          have hq5 : B2 q = none := fresh_back x511 hq
          obtain ⟨G5', S5, D5, new5, no5⟩ := dk_joinX D4 x512 (fun x => x = cl ∨ x = q) (fun x hx => hx.elim (fun z => by rw [z]; exact hcl5) fun z => by rw [z]; exact hq5)
          have hne : hp ≠ sp := fun z => by
            rw [← z, b9 _ _ hp8] at hsp
            cases hsp
          have hp10 := b10 _ _ (b9 _ _ hp8)
          have hp11 := fr11 hp _ hp10 hne
          have hp12 := b12 _ _ hp11
          obtain ⟨dS, hS11⟩ := SS.o
          have hhl5 : B2 hld = none := fresh_back x510 hhl0
          have ncl : ∀ {x : Addr} {o : HO}, B10 x = some o → x ≠ cl := fun h z => by rw [z, hcl0] at h; cases h
          have nq : ∀ {x : Addr} {o : HO}, B11 x = some o → x ≠ q := fun h z => by rw [z, hq] at h; cases h
          have ghp := new5 hp _ hhp5 (fun z => z.elim (ncl hp10) (nq hp11)) hp12
          have gsp := new5 sp _ hsp5 (fun z => z.elim (ncl hspx) (nq hS11)) (b12 _ _ hS11)
          have ghl := new5 hld _ hhl5 (fun z => z.elim (fun e => hch e.symm) (nq SS.h)) (b12 _ _ SS.h)
          have tb7 := b7 _ _ htbx
          have tb8 : B8 tb = some (.tup [.int 5, .int 1]) := b8 _ _ (fun z => by rw [z, hhpx] at tb7; cases tb7) tb7
          have tb10 := b10 _ _ (b9 _ _ tb8)
          have tb11 := fr11 tb _ tb10 (fun z => by rw [z, hspx] at tb10; cases tb10)
          have gtb := new5 tb _ htb (fun z => z.elim (ncl tb10) (nq tb11)) (b12 _ _ tb11)
          obtain ⟨ap5, ak5, as5, aw5⟩ := D4.al
          have nof : ∀ {x : Addr}, B2 x = none → x ≠ p ∧ x ≠ ka ∧ x ≠ sa2 ∧ x ≠ wa2 := fun h => ⟨fun z => ap5 (by rw [← z]; exact h), fun z => ak5 (by rw [← z]; exact h), fun z => as5 (by rw [← z]; exact h), fun z => aw5 (by rw [← z]; exact h)⟩
          refine ⟨G5', q, dq, ⟨p, hp, sp, tb, p, cl, hld, ka, sa2, wa2, g, NS.pos cs2, ff, 96, tb⟩, cs2, rfl, hqx, ⟨D5, no5 q (.inr rfl), ⟨dh, ghp⟩, ⟨dS, by rw [ck.n] at gsp; exact gsp⟩, b12 _ _ SS.c, no5 cl (.inl rfl), ghl, ck.n, by show (NS.pos cs2).length = 96; rw [← ck.n]; exact List.length_map _, nof hq5, nof hcl5, (fun z => by
            have z' : q = cl := z
            rw [z', SS.c] at hq
            cases hq), rfl⟩, fun m B13 fr13 T13 => ⟨rfl, ?_⟩⟩
          obtain ⟨dxq, hoq⟩ := T13.o
          refine q_m (ev_var rfl) hoq (tno (.inr (.inr (.inr (.inr (.inr (.inr (.inr (.inr (.inr (.inr (.inr (.inr rfl))))))))))))) (ea_cons ev_c ea_nil) fun B b => ⟨G5', q, _, _, 0, rfl, T13.ex b, fun B2 F2 T2 => ?_⟩
          exact s_ret (ev_var rfl) fun B3 b3 => qq G5' B3 q _ cs2 ((eHG1.trans ggG).trans S5.g) (T2.ex b3) rfl rfl rfl ck hbf hlf rfl gtb
      · obtain ⟨dx6, ho6⟩ := D6.o
        have hb2 := Bool.and_eq_true_iff.mp hb
        have hb3 := of_decide_eq_true hb2.2
        have hb1 := of_decide_eq_true hb2.1
        have hbo : ∀ z ∈ ([g - ot % 2, 5, 1, 4, 96, 0, 0, g - 1 - ot / 2] : List Int), 0 ≤ z ∧ z < 2 ^ 150 := fun z hz => by
          simp only [List.mem_cons, List.not_mem_nil, or_false] at hz
          rcases hz with rfl | rfl | rfl | rfl | rfl | rfl | rfl | rfl <;> omega
        refine s_m2LD (v1 := .int (((1 - g % 2).toNat : Nat) : Int)) (xs := ([g - ot % 2, 5, 1, 4, 96, 0, 0, g - 1 - ot / 2] : List Int).map V.int) (ev_var rfl) (a1 _ _ ho6) (dno (.inr rfl)) (ev_is (ev_op ev_c (ev_op (ev_var rfl) ev_c (rv_I (by show (0 : Int) < 2; decide))) rv_I0) (by congr 1; omega)) (el_lst (ea_cons (ev_op (ev_var rfl) (ev_op (ev_var rfl) ev_c (rv_I (by show (0 : Int) < 2; decide))) rv_I0) (ea_cons ev_c (ea_cons ev_c (ea_cons ev_c (ea_cons ev_c (ea_cons ev_c (ea_cons ev_c (ea_cons (ev_op (ev_op (ev_var rfl) ev_c rv_I0) (ev_op (ev_var rfl) ev_c (rv_I ⟨by decide, by decide⟩)) rv_I0) ea_nil)))))))) (by simp)) fun l A2 hl a2 hx => wr gg3 (D6.ex (a1.trans a2)) rfl rfl (by show ws6.length < 300; omega) hx rfl (fun z hz => (hbo z hz).1) (by omega) fun G6 A3 S9 fr9 D9' => ?_
        exact fin _ _ ⟨G6, _, rfl, D9', gg3.trans S9.g, by rw [List.length_append]; show ws6.length + 1 ≤ _; omega, hbs6.app (Bs.one hbo (fun h _ => by omega)), fr9 _ _ ((a1.trans a2) _ _ n6) apn.1 apn.2.2.1 apn.2.2.2, S9.n na (alB ((a1.trans a2) _ _ n6)) gn6⟩
end

end K24

set_option Elab.async false
set_option linter.all false
set_option maxRecDepth 100000
set_option maxHeartbeats 4000000
namespace K24
open PySem PySem.Spec PyProof.Rows L2 Evl LK LT LG LS LQ LX LO LN LP LH LV LZ LW StX LD
open ND (DK Dk St)
open NS (fr fr1 cv hv headV used In flds)
open NT (Cc Sk Sd ST SP Fm cont newB fre setM dropD TxT TxH tno memL Txt hfl sfl)
/-! ### the work of the law: the uses, the memory, the pointers -/
abbrev Wd := Sd × List Nat
def nbW (hs : List Bool) (cs : List Int) (i : Nat) : Bool := (decide (cv cs i > 0) && !hv hs i) && decide (cv cs i = 1)
def rcW (s : Wd) (pk : Int) : Nat := s.2.getD (pk % (s.2.length : Int)).toNat 0
def hdW (hs : List Bool) (cs : List Int) : Nat := (fr cs hs false).headD 0
def stW (hs : List Bool) (x pk : Int) (s : Wd) : Wd :=
  if x % 5 < 2 ∨ s.2.length = 0 then ({ s.1 with cs := s.1.cs.set (hdW hs s.1.cs) 1, mem := setM s.1.mem (hdW hs s.1.cs) (some (lbF x pk)) }, s.2 ++ [hdW hs s.1.cs])
  else if x % 5 = 2 then (if nbW hs s.1.cs (rcW s pk) = true then ({ s.1 with mem := setM s.1.mem (rcW s pk) (some (lbF x pk)) }, s.2) else s)
  else if x % 5 = 3 then (if 0 < cv s.1.cs (5 + (pk % 25).toNat) ∧ 0 < (pk % 25).toNat then (dropD s.1 (5 + (pk % 25).toNat), s.2) else s)
  else if 1 < cv s.1.cs (rcW s pk) ∨ (cv s.1.cs (rcW s pk) = 1 ∧ pk % 3 = 0) then (dropD s.1 (rcW s pk), s.2)
  else if 0 < cv s.1.cs (rcW s pk) then ({ s.1 with cs := s.1.cs.set (rcW s pk) (cv s.1.cs (rcW s pk) + 1) }, s.2) else s
def ruW (hs : List Bool) (ts : List Int) (st : Nat) : Nat → Wd → Wd
  | 0, s => s
  | j + 1, s => stW hs (cellv ts (st + 2 * j)) (cellv ts (st + 2 * j + 1)) (ruW hs ts st j s)
structure WI (hs : List Bool) (s : Wd) (n : Nat) : Prop where
  lc : s.1.cs.length = 96
  r : s.1.r = 0
  p : ∀ x, 0 ≤ cv s.1.cs x
  u : ∀ x, cv s.1.cs x ≤ 2 + (n : Int)
  o : ∀ x, x < 5 → cv s.1.cs x = 1
  rc : ∀ i ∈ s.2, 5 ≤ i ∧ i < 96
  b : ∀ i ws, s.1.mem i = some ws → ws.length = 32 ∧ Bw ws
  f : 66 ≤ (fr s.1.cs hs false).length + n
  m : ((List.range 96).filter fun i => (s.1.mem i).isSome).length ≤ n
  l : s.2.length ≤ n
theorem nd_sub {α : Type} [DecidableEq α] : ∀ {l m : List α}, l.Nodup → (∀ x ∈ l, x ∈ m) → l.length ≤ m.length
  | [], _, _, _ => Nat.zero_le _
  | a :: l, m, nd, h => by
    obtain ⟨n1, n2⟩ := List.nodup_cons.mp nd
    have h1 := nd_sub (m := m.erase a) n2 fun x hx => (List.mem_erase_of_ne (fun z => n1 (by rw [← z]; exact hx))).mpr (h x (List.mem_cons_of_mem _ hx))
    have hm := h a (List.mem_cons_self ..)
    have := List.length_erase_of_mem hm
    have := List.length_pos_of_mem hm
    rw [List.length_cons]
    omega
theorem filt1 {f g : Nat → Bool} {i : Nat} {l : List Nat} (nd : l.Nodup) (h : ∀ x, x ≠ i → f x = true → g x = true) : (l.filter f).length ≤ (l.filter g).length + 1 := by
  have := nd_sub (l := l.filter f) (m := i :: l.filter g) (nd.filter f) fun x hx => by
    obtain ⟨h1, h2⟩ := List.mem_filter.mp hx
    by_cases e : x = i
    · rw [e]; exact List.mem_cons_self ..
    · exact List.mem_cons_of_mem _ (List.mem_filter.mpr ⟨h1, h x e h2⟩)
  rw [List.length_cons] at this
  exact this
section
variable {hs : List Bool} {s : Wd} {n : Nat}
theorem WI.mv {i : Nat} {cs' : List Int} {mem' : Nat → Option (List Int)} {l' : List Nat} (I : WI hs s n) (h5 : 5 ≤ i) (hl : cs'.length = 96) (hc : ∀ x, x ≠ i → cv cs' x = cv s.1.cs x) (c0 : 0 ≤ cv cs' i) (c1 : cv cs' i ≤ 3 + (n : Int)) (hm : ∀ x, x ≠ i → mem' x = s.1.mem x) (hb : ∀ ws, mem' i = some ws → ws.length = 32 ∧ Bw ws) (hr : ∀ j ∈ l', 5 ≤ j ∧ j < 96) (hn : l'.length ≤ n + 1) : WI hs (⟨s.1.r, cs', mem'⟩, l') (n + 1) := by
  refine ⟨hl, I.r, fun x => ?_, fun x => ?_, fun x hx => ?_, hr, fun x ws hx => ?_, ?_, ?_, hn⟩
  · by_cases e : x = i
    · rw [e]; exact c0
    · show 0 ≤ cv cs' x
      rw [hc x e]; exact I.p x
  · show cv cs' x ≤ 2 + ((n + 1 : Nat) : Int)
    by_cases e : x = i
    · rw [e]; omega
    · rw [hc x e]
      have := I.u x
      omega
  · show cv cs' x = 1
    rw [hc x (by omega)]; exact I.o x hx
  · by_cases e : x = i
    · rw [e] at hx; exact hb ws hx
    · have hx : mem' x = some ws := hx
      rw [hm x e] at hx; exact I.b x ws hx
  · have := filt1 (f := fr1 s.1.cs hs false) (g := fr1 cs' hs false) (i := i) (l := List.range 96) List.nodup_range fun x e h => by
      unfold NS.fr1 at h ⊢
      rw [hc x e]; exact h
    have h1 := I.f
    unfold NS.fr at h1 ⊢
    rw [I.lc] at h1
    show 66 ≤ ((List.range cs'.length).filter (fr1 cs' hs false)).length + (n + 1)
    rw [hl]
    omega
  · have := filt1 (f := fun x => (mem' x).isSome) (g := fun x => (s.1.mem x).isSome) (i := i) (l := List.range 96) List.nodup_range fun x e h => by
      rw [← hm x e]; exact h
    have h1 := I.m
    show ((List.range 96).filter fun x => (mem' x).isSome).length ≤ n + 1
    omega
theorem WI.up (I : WI hs s n) : WI hs s (n + 1) := ⟨I.lc, I.r, I.p, fun x => by have := I.u x; omega, I.o, I.rc, I.b, by have := I.f; omega, by have := I.m; omega, by have := I.l; omega⟩
theorem WI.cl (I : WI hs s n) : WI hs (s.1, []) n := ⟨I.lc, I.r, I.p, I.u, I.o, (fun i hi => by cases hi), I.b, I.f, I.m, Nat.zero_le _⟩
theorem hdW_ok (I : WI hs s n) (hn : n < 66) : headV (fr s.1.cs hs false) = .int ((hdW hs s.1.cs : Nat) : Int) ∧ 5 ≤ hdW hs s.1.cs ∧ hdW hs s.1.cs < 96 := by
  have h1 := I.f
  unfold hdW
  cases hf : fr s.1.cs hs false with
  | nil => rw [hf] at h1; exact absurd h1 (by show ¬ 66 ≤ 0 + n; omega)
  | cons x r =>
    have hx : x ∈ fr s.1.cs hs false := by rw [hf]; exact List.mem_cons_self ..
    have h2 := NS.fr_lt hx
    rw [I.lc] at h2
    refine ⟨rfl, ?_, h2⟩
    have h3 : fr1 s.1.cs hs false x = true := (List.mem_filter.mp hx).2
    unfold NS.fr1 at h3
    have h4 := of_decide_eq_true (Bool.and_eq_true_iff.mp h3).1
    have h5 : cv s.1.cs x = 0 := V.int.inj h4
    by_cases h : x < 5
    · have := I.o x h
      omega
    · show 5 ≤ x
      omega
theorem rcW_at {pk : Int} (h : s.2.length ≠ 0) : (pk % (s.2.length : Int)).toNat < s.2.length ∧ s.2[(pk % (s.2.length : Int)).toNat]? = some (rcW s pk) ∧ rcW s pk ∈ s.2 := by
  have h0 := Int.emod_nonneg pk (show (s.2.length : Int) ≠ 0 by omega)
  have h1 := Int.emod_lt_of_pos pk (show (0 : Int) < (s.2.length : Int) by omega)
  have hlt : (pk % (s.2.length : Int)).toNat < s.2.length := by omega
  have e : s.2[(pk % (s.2.length : Int)).toNat]? = some (rcW s pk) := by
    unfold rcW
    rw [List.getD_eq_getElem?_getD, List.getElem?_eq_getElem hlt]
    rfl
  exact ⟨hlt, e, List.mem_of_getElem? e⟩
theorem dropD_I {i : Nat} (I : WI hs s n) (h5 : 5 ≤ i) (hi : i < 96) (h : 0 < cv s.1.cs i) : WI hs (dropD s.1 i, s.2) (n + 1) := by
  have e := fun x => cv_set (cs := s.1.cs) (i := i) (v := cv s.1.cs i + -1) (by rw [I.lc]; exact hi) x
  have hu := I.u i
  refine I.mv (i := i) h5 (by rw [List.length_set]; exact I.lc) (fun x hx => by rw [e, if_neg hx]) (by rw [e, if_pos rfl]; omega) (by rw [e, if_pos rfl]; omega) (fun x hx => ?_) (fun ws hw => ?_) I.rc (by have := I.l; omega)
  · split
    · exact if_neg hx
    · rfl
  · split at hw
    · unfold NT.setM at hw
      rw [if_pos rfl] at hw
      cases hw
    · exact I.b i ws hw
theorem WI.st (I : WI hs s n) (hn : n < 66) (x pk : Int) : WI hs (stW hs x pk s) (n + 1) := by
  have hl := I.l
  unfold stW
  split
  · obtain ⟨_, h5, h96⟩ := hdW_ok I hn
    have e := fun x => cv_set (cs := s.1.cs) (i := hdW hs s.1.cs) (v := 1) (by rw [I.lc]; exact h96) x
    exact I.mv (i := hdW hs s.1.cs) h5 (by rw [List.length_set]; exact I.lc) (fun x hx => by rw [e, if_neg hx]) (by rw [e, if_pos rfl]; decide) (by rw [e, if_pos rfl]; omega) (fun x hx => if_neg hx) (fun ws hw => by
      unfold NT.setM at hw
      rw [if_pos rfl] at hw
      cases hw
      exact ⟨lbF_len _ _, bw_lb⟩) (fun j hj => (List.mem_append.mp hj).elim (I.rc j) fun h => by rw [List.mem_singleton.mp h]; exact ⟨h5, h96⟩) (by rw [List.length_append]; show s.2.length + 1 ≤ n + 1; omega)
  · rename_i hne
    have hne : s.2.length ≠ 0 := fun z => hne (.inr z)
    obtain ⟨_, _, hin⟩ := rcW_at (pk := pk) hne
    obtain ⟨h5, h96⟩ := I.rc _ hin
    split
    · split
      · exact I.mv (i := rcW s pk) h5 I.lc (fun x _ => rfl) (I.p _) (by have := I.u (rcW s pk); omega) (fun x hx => if_neg hx) (fun ws hw => by
          unfold NT.setM at hw
          rw [if_pos rfl] at hw
          cases hw
          exact ⟨lbF_len _ _, bw_lb⟩) I.rc (by omega)
      · exact I.up
    · split
      · have := Int.emod_lt_of_pos pk (show (0 : Int) < 25 by decide)
        split
        · rename_i h
          exact dropD_I I (by omega) (by omega) h.1
        · exact I.up
      · split
        · rename_i h
          exact dropD_I I h5 h96 (by omega)
        · split
          · rename_i h
            have e := fun x => cv_set (cs := s.1.cs) (i := rcW s pk) (v := cv s.1.cs (rcW s pk) + 1) (by rw [I.lc]; exact h96) x
            have hu := I.u (rcW s pk)
            exact I.mv (i := rcW s pk) h5 (by rw [List.length_set]; exact I.lc) (fun x hx => by rw [e, if_neg hx]) (by rw [e, if_pos rfl]; omega) (by rw [e, if_pos rfl]; omega) (fun x _ => rfl) (fun ws hw => I.b _ ws hw) I.rc (by omega)
          · exact I.up
theorem WI.ru {ts : List Int} {st : Nat} (I : WI hs s n) : ∀ j, n + j ≤ 66 → WI hs (ruW hs ts st j s) (n + j)
  | 0, _ => I
  | j + 1, h => (WI.ru I j (by omega)).st (by omega) _ _
end
/-- the pointers to blocks that a list is -/
structure PW (G : Hp) (g : Int) (xs : List V) (ls : List Nat) : Prop where
  n : xs.length = ls.length
  a : ∀ (j i : Nat), ls[j]? = some i → ∃ a, xs[j]? = some (.ref a) ∧ G a = some (.tup [.int (i : Int), .int g])
theorem PW.nil {G : Hp} {g : Int} : PW G g [] [] := ⟨rfl, fun j i h => by cases h⟩
theorem PW.mono {G G' : Hp} {g : Int} {xs : List V} {ls : List Nat} (h : PW G g xs ls) (e : Ex G G') : PW G' g xs ls := ⟨h.n, fun j i hj => let ⟨a, h1, h2⟩ := h.a j i hj; ⟨a, h1, e _ _ h2⟩⟩
theorem PW.snoc {G : Hp} {g : Int} {xs : List V} {ls : List Nat} {t : Addr} {i : Nat} (h : PW G g xs ls) (ht : G t = some (.tup [.int (i : Int), .int g])) : PW G g (xs ++ [.ref t]) (ls ++ [i]) := ⟨by rw [List.length_append, List.length_append, h.n]; rfl, fun j k hj => by
  by_cases e : j < ls.length
  · rw [List.getElem?_append_left e] at hj
    obtain ⟨a, h1, h2⟩ := h.a j k hj
    exact ⟨a, by rw [List.getElem?_append_left (by rw [h.n]; exact e)]; exact h1, h2⟩
  · rw [List.getElem?_append_right (by omega)] at hj
    cases hx : j - ls.length with
    | zero =>
      rw [hx] at hj
      cases hj
      exact ⟨t, by rw [List.getElem?_append_right (by rw [h.n]; omega), h.n, hx]; rfl, ht⟩
    | succ m => rw [hx] at hj; cases hj⟩
/-- an object that is none of the store's own -/
def Aw (G : Hp) (q : Addr) (k : Sk) (a : Addr) : Prop := G a = none ∧ (a ≠ q ∧ a ≠ k.cl ∧ a ≠ k.m) ∧ (a ≠ k.dp ∧ a ≠ k.ka ∧ a ≠ k.sa ∧ a ≠ k.wa)
section
variable {c : Cc} {G G' H H' H1 : Hp} {q a : Addr} {k : Sk} {d : Sd} {o o' : HO}
theorem Aw.new (W : ST c G H q k d) (h : H a = none) : Aw G q k a := ⟨fresh_back W.dk.g h, (let ⟨a1, a2, a3⟩ := W.al; ⟨fun z => a1 (by rw [← z]; exact h), fun z => a2 (by rw [← z]; exact h), fun z => a3 (by rw [← z]; exact h)⟩), (let ⟨a1, a2, a3, a4⟩ := W.dk.al; ⟨fun z => a1 (by rw [← z]; exact h), fun z => a2 (by rw [← z]; exact h), fun z => a3 (by rw [← z]; exact h), fun z => a4 (by rw [← z]; exact h)⟩)⟩
theorem Aw.st (A : Aw G q k a) (S : ND.St G H G' H') (h : H a = some o) : Aw G' q k a := ⟨S.n a (by rw [h]; exact fun z => by cases z) A.1, A.2⟩
theorem Aw.fm (A : Aw G q k a) (F : Fm H H' q k) (h : H a = some o) : H' a = some o := F a o h A.2.1.1 A.2.1.2.1 A.2.1.2.2
theorem Aw.upd (A : Aw G q k a) (S : ST c G H q k d) : ST c G (L2.upd H a o) q k d := NT.upd_ST S A.1 A.2.1.1 A.2.1.2.1 A.2.1.2.2 A.2.2
end
section
variable {K : PySem.W.Frag} {σ : L2.St} {H : Hp} {ta tb te : TE} {D : Ends} {sp : Sp} {E : XK} {C p dx l : Addr} {m : Str} {fs : List (Str × V)} {xs ys : List V}
theorem s_appM (hl : H l = some (.lst xs)) (ha : Ev ta σ H (.ref l)) (hp : Ev tb σ H (.ref p)) (hi : H p = some (.ins C dx fs)) (hn : fs.lookup m = none) (h : EvL te σ H ys) (k : ∀ c H1, H c = none → Ex H H1 → H1 c = some (.lst ys) → sp [.ref p, .ref c] H1 (fun v H2 => rAppend (.ref l) [v] H2 fun _ H3 => D.nx σ H3) E) : tDrop (tBM K "list" rAppend ta (tCons (tMeth C m sp [] E tb (tCons te tNil)) tNil)) D σ H := ha H (Ex.refl H) _ fun H1 e1 =>
  ⟨Or.inl ⟨rfl, xs, sq_of (e1 l _ hl)⟩, hp H1 e1 _ fun H2 e2 => ⟨p, dx, fs, rfl, (e1.trans e2) _ _ hi, hn, h H2 (e1.trans e2) _ fun c H3 hc e3 h3 => k c H3 (fresh_back (e1.trans e2) hc) ((e1.trans e2).trans e3) h3⟩⟩
end
section
variable {c : Cc} {CN : Addr} {G H : Hp} {q t : Addr} {k : Sk} {d : Sd} {i : Nat} {ys : List V}
theorem sv_uses (S : ST c G H q k d) (ht : H t = some (.tup (.int (i : Int) :: ys))) (hi : i < k.n) : SpV (NT.spUses c CN) [.ref q, .ref t] H (.int (cv d.cs i)) := fun H1 e Q q' _ => ⟨G, q, k, d, t, _, ys, rfl, S.ex e, e _ _ ht, fun j hj _ => by
  obtain rfl : i = j := by omega
  exact q', fun hno => absurd ⟨by omega, by omega⟩ hno⟩
theorem sv_new (S : ST c G H q k d) (ht : H t = some (.tup (.int (i : Int) :: ys))) (hi : i < k.n) : SpV (NT.spNew c CN) [.ref q, .ref t] H (.bl (newB k d i)) := fun H1 e Q q' _ => ⟨G, q, k, d, t, _, ys, rfl, S.ex e, e _ _ ht, fun j hj _ => by
  obtain rfl : i = j := by omega
  exact q', fun hno => absurd ⟨by omega, by omega⟩ hno⟩
end

end K24

set_option Elab.async false
set_option linter.all false
set_option maxRecDepth 100000
set_option maxHeartbeats 4000000
namespace K24
open PySem PySem.Spec PyProof.Rows L2 Evl LK LT LG LS LQ LX LO LN LP LH LV LZ LW StX LD
open ND (DK Dk St)
open NS (fr fr1 cv hv headV used In flds)
open NT (Cc Sk Sd ST SP Fm cont newB fre setM dropD TxT TxH tno memL Txt hfl sfl)
/-! ### the work of the law -/
def WJ (c : Cc) (G H : Hp) (q ta l : Addr) (k : Sk) (d : Sd) (ts : List Int) (st many : Nat) (j : Nat) (σ' : L2.St) (B : Hp) : Prop := ∃ G2 xs y5 y6 y7 y8, σ' = [some (.ref q), some (.ref ta), some (.int (st : Int)), some (.int (many : Int)), some (.ref l), y5, y6, y7, y8] ∧ St G H G2 B ∧ Fm H B q k ∧ ST c G2 B q k (ruW k.hs ts st j (d, [])).1 ∧ Aw G2 q k l ∧ B l = some (.lst xs) ∧ PW G2 (k.g + 1) xs (ruW k.hs ts st j (d, [])).2
def spLwk (c : Cc) (Pw : Addr) : Sp := fun vs H Q _ => ∃ (G : Hp) (q ta : Addr) (k : Sk) (d : Sd) (ts : List Int) (st many n : Nat), vs = [.ref q, .ref ta, .int (st : Int), .int (many : Int)] ∧ ST c G H q k d ∧ k.n = 96 ∧ G ta = some (.lst (ts.map V.int)) ∧ Good ts ∧ Tab G Pw ∧ WI k.hs (d, []) n ∧ n + many ≤ 60 ∧
  ∀ (G' H' : Hp) (l : Addr) (xs : List V), St G H G' H' → Fm H H' q k → ST c G' H' q k (ruW k.hs ts st many (d, [])).1 → H l = none → Aw G' q k l → H' l = some (.lst xs) → PW G' (k.g + 1) xs (ruW k.hs ts st many (d, [])).2 → Q (.ref l) H'
section
variable {P : Program} {w : World} {K : PySem.W.Frag} {mg : Str → Option Value} {base : Heap} {c : Cc} {CN CE Pw : Addr}
theorem ok_lwk {f f1 f2 f3 f4 f5 f6 fA fB : Addr} {fd fd1 fd2 fd3 fd4 fd5 fd6 fdA fdB : FuncData} (F : Fun K "_law_work" "_law_work" sLwk f fd)
    (FA : Fun K "_law_at" "_law_at" sAt fA fdA) (GA : FnOk P w K mg base CX0 1 fA fdA ["tape", "k"] (spCel K)) (bA : Binds K fdA ["tape", "k"] []) (gA : mg "_law_at" = some (.ref fA))
    (FLb : Fun K "_law_block" "_law_block" sLb fB fdB) (GLb : FnOk P w K mg base CX0 1 fB fdB ["number", "extra"] spLb) (bLb : Binds K fdB ["number", "extra"] []) (gLb : mg "_law_block" = some (.ref fB))
    (Gmake : FnOk P w K mg base (L2.CX P w) 7 f1 fd1 ["self", "words"] (NT.spMake c CN CE Pw)) (bmake : Binds K fd1 ["self", "words"] []) (mmake : Meth K c.T "make" f1)
    (Gwrite : FnOk P w K mg base (L2.CX P w) 6 f2 fd2 ["self", "pointer", "words"] (NT.spWrite c CN Pw)) (bwrite : Binds K fd2 ["self", "pointer", "words"] []) (mwrite : Meth K c.T "write" f2)
    (Gis_new : FnOk P w K mg base (L2.CX P w) 5 f3 fd3 ["self", "pointer"] (NT.spNew c CN)) (bis_new : Binds K fd3 ["self", "pointer"] []) (mis_new : Meth K c.T "is_new" f3)
    (Guses : FnOk P w K mg base (L2.CX P w) 4 f4 fd4 ["self", "pointer"] (NT.spUses c CN)) (buses : Binds K fd4 ["self", "pointer"] []) (muses : Meth K c.T "uses" f4)
    (Gdrop : FnOk P w K mg base (L2.CX P w) 5 f5 fd5 ["self", "pointer"] (NT.spDrop c CN)) (bdrop : Binds K fd5 ["self", "pointer"] []) (mdrop : Meth K c.T "drop" f5)
    (Gshare : FnOk P w K mg base (L2.CX P w) 5 f6 fd6 ["self", "pointer"] (NT.spShare c CN)) (bshare : Binds K fd6 ["self", "pointer"] []) (mshare : Meth K c.T "share" f6)
    (T : Txt mg) (TT : TxT mg K c.T) : FnOk P w K mg base CX0 8 f fd ["store", "tape", "start", "many"] (spLwk c Pw) := by
  refine F.ok (k := 7) scLwk (fun vs H Q E h => ?_) (fun cdv A outer s H vs Q E hr h => ?_)
  · obtain ⟨G, q, ta, k, d, ts, st, many, n, rfl, _⟩ := h
    rfl
  · obtain ⟨G, q, ta, k, d, ts, st, many, n, rfl, S, kn, hta, hg, hT, I0, hmany, qq⟩ := h
    refine ⟨_, (pss_cons (ps_set (i := 4) scLwk.nd rfl (Or.inl rfl) (pe_lst pa_nil))
      (pss_cons (ps_for PassesOwn.never rfl (pi_range1 (by rfl) T.range (pa_cons (pv 3) pa_nil)) (pg_name (i := 5) scLwk.nd rfl (Or.inl rfl)) (pss_cons (ps_set (i := 6) scLwk.nd rfl (Or.inl rfl) (pe_call GA (hr.mono (by decide)) (by rfl) gA FA.kp bA .nil pass0 (pa_cons (pv 1) (pa_cons (pe_op op_add (pv 2) (pe_op op_mul pe_int (pv 5))) pa_nil))))
      (pss_cons (ps_set (i := 7) scLwk.nd rfl (Or.inl rfl) (pe_call GA (hr.mono (by decide)) (by rfl) gA FA.kp bA .nil pass0 (pa_cons (pv 1) (pa_cons (pe_op op_add (pe_op op_add (pv 2) (pe_op op_mul pe_int (pv 5))) pe_int) pa_nil))))
      (pss_one (ps_if (PW.pt (pw_or (pt_cmpR op_lt (pe_op op_mod (pv 6) pe_int) pe_int (nomark _)) (pw_or1 (pt_cmpR op_eq (pe_callB call_len_seq (by rfl) T.len (by decide +kernel) (pa_cons (pv 4) pa_nil)) pe_int (nomark _))))) (pss_one (ps_expr (pe_bm PySem.F.plainAttrs_list PySem.F.slot_list_append PySem.F.type_list_append mt_append (pv 4) (pa_cons (pe_meth (pv 0) TT.cl mmake Gmake (hr.mono (by decide)) bmake .nil passL (pa_cons (pe_call GLb (hr.mono (by decide)) (by rfl) gLb FLb.kp bLb .nil pass0 (pa_cons (pv 6) (pa_cons (pv 7) pa_nil))) pa_nil)) pa_nil)))) (pss_one (ps_if (pt_cmpR op_eq (pe_op op_mod (pv 6) pe_int) pe_int (nomark _)) (pss_cons (ps_set (i := 8) scLwk.nd rfl (Or.inl rfl) (pe_ix ix_list (pv 4) (pe_op op_mod (pv 7) (pe_callB call_len_seq (by rfl) T.len (by decide +kernel) (pa_cons (pv 4) pa_nil))) (fun _ _ => rfl)))
      (pss_one (ps_if (pt_val (pe_meth (pv 0) TT.cl mis_new Gis_new (hr.mono (by decide)) bis_new .nil passL (pa_cons (pv 8) pa_nil))) (pss_one (ps_expr (pe_meth (pv 0) TT.cl mwrite Gwrite (hr.mono (by decide)) bwrite .nil passL (pa_cons (pv 8) (pa_cons (pe_call GLb (hr.mono (by decide)) (by rfl) gLb FLb.kp bLb .nil pass0 (pa_cons (pv 6) (pa_cons (pv 7) pa_nil))) pa_nil))))) pss_nil))) (pss_one (ps_if (pt_cmpR op_eq (pe_op op_mod (pv 6) pe_int) pe_int (nomark _)) (pss_cons (ps_set (i := 8) scLwk.nd rfl (Or.inl rfl) (pe_tup (pa_cons (pe_op op_add pe_int (pe_op op_mod (pv 7) pe_int)) (pa_cons pe_int pa_nil))))
      (pss_one (ps_if (PW.pt (pw_and (pt_cmpR op_gt (pe_meth (pv 0) TT.cl muses Guses (hr.mono (by decide)) buses .nil passL (pa_cons (pv 8) pa_nil)) pe_int (nomark _)) (pw_and1 (pt_cmpR op_gt (pe_ix ix_tup (pv 8) pe_int (fun _ _ => rfl)) pe_int (nomark _))))) (pss_one (ps_expr (pe_meth (pv 0) TT.cl mdrop Gdrop (hr.mono (by decide)) bdrop .nil passL (pa_cons (pv 8) pa_nil)))) pss_nil))) (pss_cons (ps_set (i := 8) scLwk.nd rfl (Or.inl rfl) (pe_ix ix_list (pv 4) (pe_op op_mod (pv 7) (pe_callB call_len_seq (by rfl) T.len (by decide +kernel) (pa_cons (pv 4) pa_nil))) (fun _ _ => rfl)))
      (pss_one (ps_if (PW.pt (pw_or (pt_cmpR op_gt (pe_meth (pv 0) TT.cl muses Guses (hr.mono (by decide)) buses .nil passL (pa_cons (pv 8) pa_nil)) pe_int (nomark _)) (pw_or1 (PW.pt (pw_and (pt_cmpR op_eq (pe_meth (pv 0) TT.cl muses Guses (hr.mono (by decide)) buses .nil passL (pa_cons (pv 8) pa_nil)) pe_int (nomark _)) (pw_and1 (pt_cmpR op_eq (pe_op op_mod (pv 7) pe_int) pe_int (nomark _)))))))) (pss_one (ps_expr (pe_meth (pv 0) TT.cl mdrop Gdrop (hr.mono (by decide)) bdrop .nil passL (pa_cons (pv 8) pa_nil)))) (pss_one (ps_if (pt_cmpR op_gt (pe_meth (pv 0) TT.cl muses Guses (hr.mono (by decide)) buses .nil passL (pa_cons (pv 8) pa_nil)) pe_int (nomark _)) (pss_one (ps_expr (pe_meth (pv 0) TT.cl mshare Gshare (hr.mono (by decide)) bshare .nil passL (pa_cons (pv 8) pa_nil)))) pss_nil))))))))))))))
      (pss_one (ps_ret (pv 4))))), ?_⟩
    refine q_asgL (el_lst ea_nil (by decide)) fun l B1 hl b1 hx => ?_
    refine q_forR1 (n := (many : Int)) (ea_cons (ev_var rfl) ea_nil) ⟨by omega, by omega⟩ (WJ c G H q ta l k d ts st many) (fun B eB => ⟨G, [], none, none, none, none, rfl, NT.St.of (b1.trans eB), NT.Fm.of (b1.trans eB), S.ex (b1.trans eB), Aw.new S hl, eB _ _ hx, PW.nil⟩) ?_ ?_
    · have hl0 : H l = none := hl
      rintro j σ' B hj ⟨G2, xs, y5, y6, y7, y8, rfl, S2, F2, T2, A2, hL, P2⟩
      have hj : j < many := by omega
      have I := WI.ru (st := st) (ts := ts) I0 j (by omega)
      have hst : ruW k.hs ts st (j + 1) (d, []) = stW k.hs (cellv ts (st + 2 * j)) (cellv ts (st + 2 * j + 1)) (ruW k.hs ts st j (d, [])) := rfl
      obtain ⟨x, hxv⟩ : ∃ x, x = cellv ts (st + 2 * j) := ⟨_, rfl⟩
      obtain ⟨pk, hpk⟩ : ∃ x, x = cellv ts (st + 2 * j + 1) := ⟨_, rfl⟩
      have gx := hg.cell (st + 2 * j)
      have gp := hg.cell (st + 2 * j + 1)
      rw [← hxv, ← hpk] at hst
      rw [← hxv] at gx
      rw [← hpk] at gp
      generalize ruW k.hs ts st j (d, []) = s at T2 P2 I hst
      have hta2 := T2.dk.g _ _ (S2.g _ _ hta)
      have cc : ∀ {B' : Hp} {z : Int} {σ : L2.St} {tk : TE} (m : Nat), Ex B B' → z = (m : Int) → σ[1]? = some (some (.ref ta)) → Ev tk σ B' (.int z) → Ev (tCall (spCel K) [] E0 (tCons (tVar 1) (tCons tk tNil))) σ B' (.int (cellv ts m)) :=
        fun m e ez h0 hk => ev_call (ea_cons (ev_var h0) (ea_cons hk ea_nil)) (sv_cell (sq_of (e _ _ hta2)) ez)
      refine q_asg (v := .int x) (ev_is (cc (st + 2 * j) (Ex.refl _) (by push_cast; rfl) rfl (ev_op (ev_var rfl) (ev_op ev_c (ev_var rfl) (rv_I (.inl ⟨by decide, by decide⟩))) rv_I0)) (by rw [hxv])) fun B2 b2 => ?_
      refine q_asg (v := .int pk) (ev_is (cc (st + 2 * j + 1) b2 (by push_cast; rfl) rfl (ev_op (ev_op (ev_var rfl) (ev_op ev_c (ev_var rfl) (rv_I (.inl ⟨by decide, by decide⟩))) rv_I0) ev_c rv_I0)) (by rw [hpk])) fun B3 b3 => ?_
      have b23 := b2.trans b3
      have fin : ∀ (s' : Wd) {G3 B4 : Hp} {xs' : List V} {y8 : Option V}, stW k.hs x pk s = s' → St G2 B G3 B4 → Fm H B4 q k → ST c G3 B4 q k s'.1 → B4 l = some (.lst xs') → PW G3 (k.g + 1) xs' s'.2 → WJ c G H q ta l k d ts st many (j + 1) [some (.ref q), some (.ref ta), some (.int (st : Int)), some (.int (many : Int)), some (.ref l), some (.int (j : Int)), some (.int x), some (.int pk), y8] B4 := fun s' G3 B4 xs' y8 e S3 F3 T3 h3 P3 => ⟨G3, xs', _, _, _, _, rfl, S2.trans S3, F3, by rw [hst, e]; exact T3, A2.st S3 hL, h3, by rw [hst, e]; exact P3⟩
      have T3 := T2.ex b23
      have hL3 := b23 _ _ hL
      obtain ⟨dx, ho⟩ := T3.o
      have hn := P2.n
      have lblk : ∀ {B' : Hp} {y8 : Option V}, EvL (tCall spLb [] E0 (tCons (tVar 6) (tCons (tVar 7) tNil))) [some (.ref q), some (.ref ta), some (.int (st : Int)), some (.int (many : Int)), some (.ref l), some (.int (j : Int)), some (.int x), some (.int pk), y8] B' ((lbF x pk).map V.int) := el_call (vs := [.int x, .int pk]) (ea_cons (ev_var rfl) (ea_cons (ev_var rfl) ea_nil)) (fun A a Q q' E' => ⟨x, pk, rfl, gx.1, gx.2, gp.1, gp.2, q'⟩)
      have n0 : ∀ z ∈ lbF x pk, 0 ≤ z := fun z hz => (lbF_b z hz).1
      have okb : NT.okB ((lbF x pk).map V.int) := ⟨_, rfl, lbF_len _ _, n0⟩
      have hI60 : n + j < 66 := by omega
      refine s_if (b := decide (x % 5 < 2 ∨ s.2.length = 0)) (et_is (et_or (et_test (ev_op (ev_op (ev_var rfl) ev_c (rv_I (by show (0 : Int) < 5; decide))) ev_c rv_I0)) (fun _ => et_test (ev_op (ev_len (ev_var rfl) (sq_of hL3)) ev_c (rv_eq rfl)))) (by rw [hn, Bool.eq_iff_iff]; simp)) (fun hb B4 b4 => ?_) (fun hb B4 b4 => ?_)
      · have hb := of_decide_eq_true hb
        obtain ⟨hd1, hd5, hd96⟩ := hdW_ok I hI60
        refine s_appM (b4 _ _ hL3) (ev_var rfl) (ev_var rfl) (b4 _ _ ho) (tno (.inr (.inr (.inr (.inr (.inr (.inl rfl))))))) lblk fun u B5 hu b5 hux => ⟨G2, q, k, s.1, u, _, rfl, T3.ex (b4.trans b5), hux, ND.kd_ints _, hT.mono (S2.g.trans ((T3.ex (b4.trans b5)).dk.g)), by rw [I.r]; decide, (fun z => (T3.ex b4).al.2.1 (by rw [← z]; exact hu)), fun hno => absurd okb hno, fun _ hf => absurd hf (by have := I.f; unfold NT.fre; rw [I.r]; omega), fun ws i hws hl32 hnn hr hhd hi G3 B6 t S6 F6 T6 ht ht3 => ?_⟩
        obtain rfl := ints_inj hws
        rw [hd1] at hhd
        obtain rfl : hdW k.hs s.1.cs = i := by have := V.int.inj hhd; omega
        have hL6 : B6 l = some (.lst xs) := A2.fm F6 ((b23.trans (b4.trans b5)) _ _ hL)
        have S36 : St G2 B G3 B6 := (NT.St.of (b23.trans (b4.trans b5))).trans S6
        refine ⟨l, xs, .ref t, rfl, rfl, hL6, sz_lt (by rw [hn]; have := I.l; omega), ?_⟩
        have A3 := A2.st S36 hL
        exact fin _ (if_pos hb) (ND.St.upd S36) (fun a o ha n1 n2 n3 => by
          rw [upd_ne (fun z => by rw [z, hl0] at ha; cases ha)]
          exact (F2.trans ((NT.Fm.of (b23.trans (b4.trans b5))).trans F6)) a o ha n1 n2 n3) (A3.upd T6) upd_same ((P2.mono S6.g).snoc ht3)
      · have hne : ¬ (x % 5 < 2 ∨ s.2.length = 0) := of_decide_eq_false hb
        have hl1 : s.2.length ≠ 0 := fun z => hne (.inr z)
        obtain ⟨hlt, hat, hin⟩ := rcW_at (pk := pk) hl1
        obtain ⟨h5, h96⟩ := I.rc _ hin
        obtain ⟨t, htx, htG⟩ := P2.a _ _ hat
        have hm0 := Int.emod_nonneg pk (show (s.2.length : Int) ≠ 0 by omega)
        have p25 := Int.emod_nonneg pk (show (25 : Int) ≠ 0 by decide)
        have p25' := Int.emod_lt_of_pos pk (show (0 : Int) < 25 by decide)
        have drp : ∀ {B' : Hp} {t' : Addr} {i : Nat} {ys : List V} {y8 : Option V}, Ex B3 B' → B' t' = some (.tup (.int (i : Int) :: ys)) → 5 ≤ i → i < 96 → 0 < cv s.1.cs i → stW k.hs x pk s = (dropD s.1 i, s.2) → NT.spDrop c CN [.ref q, .ref t'] B' (fun _ H2 => WJ c G H q ta l k d ts st many (j + 1) [some (.ref q), some (.ref ta), some (.int (st : Int)), some (.int (many : Int)), some (.ref l), some (.int (j : Int)), some (.int x), some (.int pk), y8] H2) E0 := fun {B' t' i ys y8} e ht h5 h96 hc hs => ⟨G2, q, k, s.1, t', _, ys, rfl, T3.ex e, ht, fun i' hi' hin' _ _ B9 F9 T9 => by
          obtain rfl : i = i' := by omega
          have FB := (NT.Fm.of (q := q) (k := k) (b23.trans e)).trans F9
          exact fin _ hs (NT.st_of' FB T9) (F2.trans FB) T9 (A2.fm FB hL) P2, fun hno => absurd ⟨by omega, by rw [kn]; omega, by omega, by rw [Int.toNat_natCast]; omega⟩ hno⟩
        refine s_if (b := decide (x % 5 = 2)) (et_is (et_test (ev_op (ev_op (ev_var rfl) ev_c (rv_I (by show (0 : Int) < 5; decide))) ev_c (rv_eq rfl))) (by rw [Bool.eq_iff_iff]; simp)) (fun hb2 B5 b5 => ?_) (fun hb2 B5 b5 => ?_)
        · have hb2 := of_decide_eq_true hb2
          refine q_asg (v := .ref t) (ev_op (ev_var rfl) (ev_is (ev_op (ev_var rfl) (ev_len (ev_var rfl) (sq_of ((b4.trans b5) _ _ hL3))) (rv_I (by show (0 : Int) < ((xs.length : Nat) : Int); omega))) (w := .int (((pk % (s.2.length : Int)).toNat : Nat) : Int)) (by rw [hn]; congr 1; omega)) (rv_ixL (sq_of ((b4.trans b5) _ _ hL3)) (atI_nat htx))) fun B6 b6 => ?_
          have eB : Ex B3 B6 := (b4.trans b5).trans b6
          have T6 := T3.ex eB
          have ht6 := T6.dk.g _ _ htG
          refine s_when (b := nbW k.hs s.1.cs (rcW s pk)) (et_B (ev_meth (ev_var rfl) (eB _ _ ho) (tno (.inr (.inr (.inr (.inl rfl))))) (ea_cons (ev_var rfl) ea_nil) (sv_new T6 ht6 (by rw [kn]; exact h96)))) (fun hb3 B7 b7 => ?_) (fun hb3 B7 b7 => ?_)
          · refine s_m2LD (v1 := .ref t) (ev_var rfl) ((eB.trans b7) _ _ ho) (tno (.inr (.inr (.inr (.inr (.inr (.inr (.inl rfl)))))))) (ev_var rfl) lblk fun u B8 hu b8 hux => ⟨G2, q, k, s.1, t, _, [.int (k.g + 1)], u, _, rfl, T6.ex (b7.trans b8), (b7.trans b8) _ _ ht6, hux, ND.kd_ints _, hT.mono (S2.g.trans (T6.ex (b7.trans b8)).dk.g), fun hno => absurd ⟨by omega, by rw [kn]; omega, by rw [Int.toNat_natCast]; exact hb3, okb⟩ hno, fun ws i hws hl32 hnn hz hi hnb G3 B9 S9 F9 T9 => ?_⟩
            obtain rfl := ints_inj hws
            obtain rfl : rcW s pk = i := by omega
            have e8 := b23.trans (eB.trans (b7.trans b8))
            exact fin ({ s.1 with mem := setM s.1.mem (rcW s pk) (some (lbF x pk)) }, s.2) (by unfold stW; rw [if_neg hne, if_pos hb2, if_pos hb3]) ((NT.St.of e8).trans S9) (F2.trans ((NT.Fm.of e8).trans F9)) T9 (A2.fm F9 (e8 _ _ hL)) (P2.mono S9.g)
          · have e8 := b23.trans (eB.trans b7)
            exact fin s (by unfold stW; rw [if_neg hne, if_pos hb2, if_neg (by rw [hb3]; decide)]) (NT.St.of e8) (F2.trans (NT.Fm.of e8)) (T2.ex e8) (e8 _ _ hL) P2
        have hb2 := of_decide_eq_false hb2
        refine s_if (b := decide (x % 5 = 3)) (et_is (et_test (ev_op (ev_op (ev_var rfl) ev_c (rv_I (by show (0 : Int) < 5; decide))) ev_c (rv_eq rfl))) (by rw [Bool.eq_iff_iff]; simp)) (fun hb3 B6 b6 => ?_) (fun hb3 B6 b6 => ?_)
        · have hb3 := of_decide_eq_true hb3
          refine q_asgU (xs := [.int ((5 + (pk % 25).toNat : Nat) : Int), .int 1]) (eu_tup (ea_cons (ev_is (ev_op ev_c (ev_op (ev_var rfl) ev_c (rv_I (by show (0 : Int) < 25; decide))) rv_I0) (by congr 1; omega)) (ea_cons ev_c ea_nil)) (by simp)) fun t2 B7 _ b7 ht2 => ?_
          have eB : Ex B3 B7 := ((b4.trans b5).trans b6).trans b7
          have T7 := T3.ex eB
          refine s_when (b := decide (0 < cv s.1.cs (5 + (pk % 25).toNat) ∧ 0 < (pk % 25).toNat)) (et_is (et_and (et_test (ev_op (ev_meth (ev_var rfl) (eB _ _ ho) (tno (.inr (.inr (.inr (.inr (.inr (.inr (.inr (.inr (.inr (.inl rfl))))))))))) (ea_cons (ev_var rfl) ea_nil) (sv_uses T7 ht2 (by rw [kn]; omega))) ev_c rv_I0)) (fun _ => et_test (ev_op (ev_op (ev_var rfl) ev_c (rv_ixT (st_of ht2) (atI_nat (j := 0) rfl))) ev_c rv_I0))) (by rw [Bool.eq_iff_iff, Bool.and_eq_true_iff, decide_eq_true_iff, decide_eq_true_iff, decide_eq_true_iff]; omega)) (fun hb4 B8 b8 => ?_) (fun hb4 B8 b8 => ?_)
          · have hb4 := of_decide_eq_true hb4
            exact s_m (ev_var rfl) ((eB.trans b8) _ _ ho) (tno (.inr (.inr (.inr (.inr (.inr (.inr (.inr (.inr (.inl rfl)))))))))) (ea_cons (ev_var rfl) ea_nil) fun B9 b9 => drp (eB.trans (b8.trans b9)) ((b8.trans b9) _ _ ht2) (by omega) (by omega) hb4.1 (by unfold stW; rw [if_neg hne, if_neg hb2, if_pos hb3, if_pos hb4])
          · have hb4 := of_decide_eq_false hb4
            have e8 := b23.trans (eB.trans b8)
            exact fin s (by unfold stW; rw [if_neg hne, if_neg hb2, if_pos hb3, if_neg hb4]) (NT.St.of e8) (F2.trans (NT.Fm.of e8)) (T2.ex e8) (e8 _ _ hL) P2
        have hb3 := of_decide_eq_false hb3
        refine q_asg (v := .ref t) (ev_op (ev_var rfl) (ev_is (ev_op (ev_var rfl) (ev_len (ev_var rfl) (sq_of (((b4.trans b5).trans b6) _ _ hL3))) (rv_I (by show (0 : Int) < ((xs.length : Nat) : Int); omega))) (w := .int (((pk % (s.2.length : Int)).toNat : Nat) : Int)) (by rw [hn]; congr 1; omega)) (rv_ixL (sq_of (((b4.trans b5).trans b6) _ _ hL3)) (atI_nat htx))) fun B7 b7 => ?_
        have eB : Ex B3 B7 := ((b4.trans b5).trans b6).trans b7
        have T7 := T3.ex eB
        have ht7 := T7.dk.g _ _ htG
        have us : ∀ {B' : Hp} {y : Option V}, Ex B7 B' → SpV (NT.spUses c CN) [.ref q, .ref t] B' (.int (cv s.1.cs (rcW s pk))) := fun e => sv_uses (T7.ex e) (e _ _ ht7) (by rw [kn]; exact h96)
        refine s_if (b := decide (1 < cv s.1.cs (rcW s pk) ∨ (cv s.1.cs (rcW s pk) = 1 ∧ pk % 3 = 0))) (et_is (et_or (et_test (ev_op (ev_meth (ev_var rfl) (eB _ _ ho) (tno (.inr (.inr (.inr (.inr (.inr (.inr (.inr (.inr (.inr (.inl rfl))))))))))) (ea_cons (ev_var rfl) ea_nil) (us (y := none) (Ex.refl _))) ev_c rv_I0)) (fun _ => et_and (et_test (ev_op (ev_meth (ev_var rfl) (eB _ _ ho) (tno (.inr (.inr (.inr (.inr (.inr (.inr (.inr (.inr (.inr (.inl rfl))))))))))) (ea_cons (ev_var rfl) ea_nil) (us (y := none) (Ex.refl _))) ev_c (rv_eq rfl))) (fun _ => et_test (ev_op (ev_op (ev_var rfl) ev_c (rv_I (by show (0 : Int) < 3; decide))) ev_c (rv_eq rfl))))) (by rw [Bool.eq_iff_iff]; simp)) (fun hb4 B8 b8 => ?_) (fun hb4 B8 b8 => ?_)
        · have hb4 := of_decide_eq_true hb4
          exact s_m (ev_var rfl) ((eB.trans b8) _ _ ho) (tno (.inr (.inr (.inr (.inr (.inr (.inr (.inr (.inr (.inl rfl)))))))))) (ea_cons (ev_var rfl) ea_nil) fun B9 b9 => drp (eB.trans (b8.trans b9)) ((b8.trans b9) _ _ ht7) h5 h96 (by omega) (by unfold stW; rw [if_neg hne, if_neg hb2, if_neg hb3, if_pos hb4])
        have hb4 := of_decide_eq_false hb4
        refine s_when (b := decide (0 < cv s.1.cs (rcW s pk))) (et_test (ev_op (ev_meth (ev_var rfl) ((eB.trans b8) _ _ ho) (tno (.inr (.inr (.inr (.inr (.inr (.inr (.inr (.inr (.inr (.inl rfl))))))))))) (ea_cons (ev_var rfl) ea_nil) (us (y := none) b8)) ev_c rv_I0)) (fun hb5 B9 b9 => ?_) (fun hb5 B9 b9 => ?_)
        · have hb5 := of_decide_eq_true hb5
          refine s_m (ev_var rfl) ((eB.trans (b8.trans b9)) _ _ ho) (tno (.inr (.inr (.inr (.inr (.inr (.inr (.inr (.inl rfl))))))))) (ea_cons (ev_var rfl) ea_nil) fun BA bA => ⟨G2, q, k, s.1, t, _, [.int (k.g + 1)], rfl, T7.ex (b8.trans (b9.trans bA)), (b8.trans (b9.trans bA)) _ _ ht7, fun i' hi' _ _ _ BB FB TB => ?_, fun hno => absurd ⟨by omega, by rw [kn]; omega, by omega, by rw [Int.toNat_natCast]; omega⟩ hno⟩
          obtain rfl : rcW s pk = i' := by omega
          have FX := (NT.Fm.of (q := q) (k := k) (b23.trans (eB.trans (b8.trans (b9.trans bA))))).trans FB
          exact fin ({ s.1 with cs := s.1.cs.set (rcW s pk) (cv s.1.cs (rcW s pk) + 1) }, s.2) (by unfold stW; rw [if_neg hne, if_neg hb2, if_neg hb3, if_neg hb4, if_pos hb5]) (NT.st_of' FX TB) (F2.trans FX) TB (A2.fm FX hL) P2
        · have hb5 := of_decide_eq_false hb5
          have e8 := b23.trans (eB.trans (b8.trans b9))
          exact fin s (by unfold stW; rw [if_neg hne, if_neg hb2, if_neg hb3, if_neg hb4, if_neg hb5]) (NT.St.of e8) (F2.trans (NT.Fm.of e8)) (T2.ex e8) (e8 _ _ hL) P2
    · rintro σ' B ⟨G2, xs, y5, y6, y7, y8, rfl, S2, F2, T2, A2, hL, P2⟩
      exact s_ret (ev_var rfl) fun H2 e2 => qq G2 H2 l xs (S2.trans (NT.St.of e2)) (F2.trans (NT.Fm.of e2)) (T2.ex e2) hl A2 (e2 _ _ hL) P2
end

end K24

set_option Elab.async false
set_option linter.all false
set_option maxRecDepth 100000
set_option maxHeartbeats 4000000
namespace NS
open PySem PySem.Spec PyProof.Rows L2 Evl LK LT LG LS LQ LX LO
abbrev sSettle : Stmt := inClass (top 36) 11
theorem scSettle : FnScope ["self", "count"] ["self"] (defScope sSettle) := ⟨rfl, rfl, rfl, by decide +kernel, rfl, by decide +kernel, by decide +kernel⟩
abbrev sHeld : Stmt := inClass (top 36) 6
theorem scHeld : FnScope ["self", "block"] ["self", "block"] (defScope sHeld) := ⟨rfl, rfl, rfl, by decide +kernel, rfl, by decide +kernel, by decide +kernel⟩
section
variable {P : Program} {w : World} {K : PySem.W.Frag} {mg : Str → Option Value} {base : Heap} {C CN CS : Addr}
theorem ok_settle {f : Addr} {fd : FuncData} (F : Fun K "settle" "Space.settle" sSettle f fd) (T : Txt mg K C) : FnOk P w K mg base CX0 1 f fd ["self"] (spSettle C) := by
  refine F.ok scSettle (fun vs H Q E h => ?_) (fun cdv A outer s H vs Q E hr h => ?_)
  · obtain ⟨p, cl, hl, cs, hs, dx, rfl, _⟩ := h
    rfl
  · obtain ⟨p, cl, hl, cs, hs, dx, rfl, S, ho, q⟩ := h
    refine ⟨_, (pss_one (ps_fld (pv 0) (pe_lc (own := [("count", 1)]) (g := gName 1) (tt := tYes) rfl scSettle.nd (pi_list (pe_fld (pv 0) rfl)) (blkOk_by (own := [("count", 1)]) (N := ["self", "count"]) (sc := defScope sSettle) (by decide +kernel)) (fun _ _ _ _ _ => pg_name (i := 1) scSettle.nd rfl (Or.inl rfl)) (fun _ _ _ _ _ => pts_nil) (fun _ _ _ _ _ => (pe_cmpR op_gt (pv 1) pe_int (nomark _)))) rfl)), ?_⟩
    exact s_fldL (el_pos (ev_fld (ev_var rfl) ho T.cl T.nC (fl_c _ _ _)) (sq_of S.c) S.le (fun _ => rfl) (by show 1 < 2; decide)) (ev_var rfl) ho T.cl T.nH (by show 3 < 1000; decide) fun l H1 hl' e1 h1 => q l H1 hl' e1 h1
theorem ok_isheld {f fC : Addr} {fd fdC : FuncData} (F : Fun K "is_held" "Space.is_held" sHeld f fd) (Gcheck_exists : FnOk P w K mg base (L2.CX P w) 2 fC fdC ["self", "block"] (spAt C CN always fun _ _ _ => .non)) (bcheck_exists : Binds K fdC ["self", "block"] []) (mcheck_exists : Meth K C "_check_exists" fC) (T : Txt mg K C) : FnOk P w K mg base (L2.CX P w) 3 f fd ["self", "block"] (spAt C CN always fun _ hs k => .bl (hv hs k)) := by
  refine F.okX scHeld (fun vs H Q E h => ?_) (fun cdv A outer s H vs Q E hr h => ?_)
  · obtain ⟨p, cl, hl, cs, hs, z, rfl, _⟩ := h
    rfl
  · obtain ⟨p, cl, hl, cs, hs, z, rfl, S, q, qE⟩ := h
    obtain ⟨dx, ho⟩ := S.o
    refine ⟨_, (pss_cons (ps_expr (pe_meth (pv 0) T.cl mcheck_exists Gcheck_exists (hr.mono (by decide)) bcheck_exists .nil (pass_own (takes_of rfl rfl rfl rfl)) (pa_cons (pv 1) pa_nil)))
      (pss_one (ps_ret (pe_ix ix_list (pe_fld (pv 0) rfl) (pv 1) (fun _ _ => rfl))))), ?_⟩
    refine q_m (ev_var rfl) ho (fl_no _ _ _ ⟨by decide +kernel, by decide +kernel, by decide +kernel⟩) (ea_cons (ev_var rfl) ea_nil) fun H1 e1 => ⟨p, cl, hl, cs, hs, z, rfl, S.ex e1, fun k hk hlt _ H2 e2 => ?_, fun hn H2 e2 => qE hn H2 (e1.trans e2)⟩
    subst hk
    have S2 := S.ex (e1.trans e2)
    obtain ⟨dx2, ho2⟩ := S2.o
    exact s_ret (ev_op (ev_fld (ev_var rfl) ho2 T.cl T.nH (fl_h _ _ _)) (ev_var rfl) (rv_ixL (sq_of S2.h) (atI_nat (hv_at (by rw [← S.len]; exact hlt))))) fun H3 e3 => q k rfl hlt True.intro H3 ((e1.trans e2).trans e3)
end
end NS

set_option Elab.async false
set_option linter.all false
set_option maxRecDepth 100000
set_option maxHeartbeats 4000000
namespace NT
open PySem PySem.Spec PyProof.Rows L2 Evl LK LT LG LS LQ LX LO LN LP LH LV LZ LW StX LD
open ND (DK Dk St)
open NS (fr cv hv headV used In flds)
abbrev sUh : Stmt := inClass (top 38) 3
theorem scUh : FnScope ["self", "head"] ["self", "head"] (defScope sUh) := ⟨rfl, rfl, rfl, by decide +kernel, rfl, by decide +kernel, by decide +kernel⟩
/-! ### another head: the space is settled, the memory is empty -/
section
variable {c : Cc} {G H H' : Hp} {q : Addr} {k : Sk} {d : Sd}
theorem ST.uh (S : ST c G H q k d) {hl m h2 th2 dh2 : Addr} {g2 : Int} {hs0 : List Bool} {ds dq : Addr} (gh2 : G h2 = some (.ins c.H dh2 (hfl g2 th2 k.n))) (hk : ∀ a o, H a = some o → a ≠ q → a ≠ k.sp → H' a = some o) (h0 : H hl = none) (m0 : H m = none) (hm : hl ≠ m)
    (hsp : H' k.sp = some (.ins c.S ds (flds k.n k.cl hl))) (hq : H' q = some (.ins c.T dq (sfl k.dp h2 k.sp k.tb d.r m))) (hhl : H' hl = some (.lst (hs0.map V.bl))) (hmm : H' m = some (.dK [])) (lh : hs0.length = k.n) :
    ∃ G', ST c G' H' q { k with hp := h2, g := g2, th := th2, hl := hl, m := m, hs := hs0 } ⟨d.r, d.cs, fun _ => none⟩ ∧ Rs H q k G G' H' := by
  obtain ⟨ds0, gs⟩ := S.s
  have D := S.dk
  have ge : ∀ {a : Addr} {o : HO}, G a = some o → H a = some o := fun h => D.g _ _ h
  have hsp0 := ge gs
  have nsp : ∀ {a : Addr}, G a = none → a ≠ k.sp := fun h z => by rw [z, gs] at h; cases h
  have nhl : ∀ {a : Addr} {o : HO}, H a = some o → a ≠ hl := fun h z => by rw [z, h0] at h; cases h
  have nm : ∀ {a : Addr} {o : HO}, H a = some o → a ≠ m := fun h z => by rw [z, m0] at h; cases h
  have sph : k.sp ≠ hl := nhl hsp0
  let G' : Hp := fun a => if a = k.sp then H' k.sp else if a = hl then H' hl else G a
  have g1 : G' k.sp = H' k.sp := if_pos rfl
  have g2 : G' hl = H' hl := by
    show (if hl = k.sp then _ else _) = _
    rw [if_neg sph.symm, if_pos rfl]
  have g3 : ∀ {a : Addr}, a ≠ k.sp → a ≠ hl → G' a = G a := fun {a} h1 h2 => by
    show (if a = k.sp then _ else _) = _
    rw [if_neg h1, if_neg h2]
  have gG : ∀ {a : Addr} {o : HO}, G a = some o → a ≠ k.sp → G' a = some o := fun h n => by
    rw [g3 n (nhl (ge h))]
    exact h
  have gI : ∀ {a : Addr} {o : HO}, G a = some o → (∀ C dx fs, o ≠ .ins C dx fs) → G' a = some o := fun h n => gG h fun z => by
    rw [z, gs] at h
    exact n _ _ _ (Option.some.inj h).symm
  have gN : ∀ {a : Addr} {o : HO}, H a = some o → G a = none → G' a = none := fun h n => by
    rw [g3 (nsp n) (nhl h)]
    exact n
  obtain ⟨dx, ho⟩ := D.o
  obtain ⟨kl, hka, hkl, hks⟩ := D.k
  obtain ⟨sl, hsa, hsl, hss⟩ := D.s
  obtain ⟨wl, hwa, hwl, hws⟩ := D.w
  obtain ⟨q1, q2, q3, q4⟩ := S.q1
  have hdp := hk _ _ ho q1.symm (nsp D.gp)
  have ka' := hk _ _ hka q2.symm (nsp D.gk)
  have sa' := hk _ _ hsa q3.symm (nsp D.gs)
  have wa' := hk _ _ hwa q4.symm (nsp D.gw)
  obtain ⟨dq0, hq0⟩ := S.o
  have D' : DK c.D G' H' k.dp k.ka k.sa k.wa k.n ⟨k.f, [], true, none⟩ := ⟨fun a o h => by
      by_cases h1 : a = k.sp
      · rw [h1, g1] at h
        rw [h1]
        exact h
      · by_cases h2 : a = hl
        · rw [h2, g2] at h
          rw [h2]
          exact h
        · rw [g3 h1 h2] at h
          exact hk _ _ (ge h) (fun z => by rw [z, S.gq] at h; cases h) h1, gN ho D.gp, gN hka D.gk, gN hsa D.gs, gN hwa D.gw, D.nks, D.nkw, D.nsw, ⟨dx, hdp⟩, ⟨kl, ka', hkl, fun i a ha => gI (hks i a ha) fun _ _ _ z => by cases z⟩, ⟨sl, sa', hsl, fun i a ha => gI (hss i a ha) fun _ _ _ z => by cases z⟩, ⟨wl, wa', hwl, fun i t w ht hw => let ⟨l, a, b⟩ := hws i t w ht hw; ⟨l, gI a (fun _ _ _ z => by cases z), gI b (fun _ _ _ z => by cases z)⟩⟩, D.n0, D.n1, D.wl, D.ok, D.kz⟩
  have hsp2 : h2 ≠ k.sp := fun z => by
    rw [z, gs] at gh2
    have h3 := Option.some.inj gh2
    injection h3 with _ _ h4
    unfold flds hfl at h4
    injection h4 with h5 _
    injection h5 with h6 _
    exact absurd h6 (by decide)
  have hcl := hk _ _ S.c S.qc.symm (nsp S.gc)
  refine ⟨G', ⟨D', ⟨dq, hq⟩, gN hq0 S.gq, ⟨dh2, gG gh2 hsp2⟩, ⟨ds, by rw [g1]; exact hsp⟩, hcl, gN S.c S.gc, by rw [g2]; exact hhl, S.lc, lh, ⟨[], hmm, fun x => .inl ⟨rfl, rfl⟩, [], rfl, List.nodup_nil, fun x => ⟨fun h => (by cases h), fun h => absurd rfl h.2⟩⟩, ?_, S.q1, S.c1, ⟨(nm ho).symm, (nm hka).symm, (nm hsa).symm, (nm hwa).symm⟩, S.qc, nm hq0, nm S.c⟩, ⟨fun a o h n => gG h n, fun a h g => ?_, hk⟩⟩
  · rw [g3 (nm hsp0).symm hm.symm]
    exact fresh_back D.g m0
  · cases hx : H a with
    | none => exact absurd hx h
    | some o => exact gN hx g
end
theorem t_ph {dp hp sp tb m h2 : Addr} {r : Int} : putF "head" (.ref h2) (sfl dp hp sp tb r m) = sfl dp h2 sp tb r m := rfl
def spUh (c : Cc) : Sp := fun vs H Q _ => ∃ G q k d h2 th2 dh g2, vs = [.ref q, .ref h2] ∧ ST c G H q k d ∧ G h2 = some (.ins c.H dh (hfl g2 th2 k.n)) ∧
  ∀ (G' H' : Hp) (hl m : Addr), ST c G' H' q { k with hp := h2, g := g2, th := th2, hl := hl, m := m, hs := NS.pos d.cs } ⟨d.r, d.cs, fun _ => none⟩ → Rs H q k G G' H' → H hl = none → H m = none → Q .non H'
section
variable {P : Program} {w : World} {K : PySem.W.Frag} {mg : Str → Option Value} {base : Heap} {c : Cc}
theorem ok_uh {f f1 : Addr} {fd fd1 : FuncData} (F : Fun K "use_head" "Store.use_head" sUh f fd) (GSsettle : FnOk P w K mg base CX0 1 f1 fd1 ["self"] (NS.spSettle c.S)) (bSsettle : Binds K fd1 ["self"] []) (mSsettle : Meth K c.S "settle" f1) (TT : TxT mg K c.T) (TS : NS.Txt mg K c.S) : FnOk P w K mg base CX0 2 f fd ["self", "head"] (spUh c) := by
  refine F.ok (k := 1) scUh (fun vs H Q E h => ?_) (fun cdv A outer s H vs Q E hr h => ?_)
  · obtain ⟨G, q, k, d, h2, th2, dh, g2, rfl, _⟩ := h
    rfl
  · obtain ⟨G, q, k, d, h2, th2, dh, g2, rfl, S, gh2, qq⟩ := h
    refine ⟨_, (pss_cons (ps_fld (pv 0) (pv 1) rfl)
      (pss_cons (ps_expr (pe_meth0 (pe_fld (pv 0) rfl) TS.cl mSsettle GSsettle (hr.mono (by decide)) bSsettle .nil pass0))
      (pss_one (ps_fld (pv 0) pe_dnewK rfl)))), ?_⟩
    obtain ⟨dx, ho⟩ := S.o
    obtain ⟨ds, hs⟩ := st_spu S
    have qsp : q ≠ k.sp := fun z => by
      have := S.gq
      obtain ⟨dz, hz⟩ := S.s
      rw [z, hz] at this
      cases this
    refine q_fld (ev_var rfl) (ev_var rfl) ho TT.cl TT.nh (by show 6 < 1000; decide) fun H1 e1 => ?_
    rw [t_ph]
    have k1 : ∀ a o, H a = some o → a ≠ q → (upd H1 q (.ins c.T dx (sfl k.dp h2 k.sp k.tb d.r k.m))) a = some o := fun a o h n => by
      rw [upd_ne n]
      exact e1 _ _ h
    have hq1 : (upd H1 q (.ins c.T dx (sfl k.dp h2 k.sp k.tb d.r k.m))) q = some (.ins c.T dx (sfl k.dp h2 k.sp k.tb d.r k.m)) := upd_same
    have fb1 : ∀ a, (upd H1 q (.ins c.T dx (sfl k.dp h2 k.sp k.tb d.r k.m))) a = none → H a = none := fun a h => by
      by_cases z : a = q
      · rw [z, hq1] at h
        cases h
      · rw [upd_ne z] at h
        exact fresh_back e1 h
    generalize upd H1 q (.ins c.T dx (sfl k.dp h2 k.sp k.tb d.r k.m)) = A1 at k1 hq1 fb1 ⊢
    have hs1 := k1 _ _ hs qsp.symm
    have SP1 : NS.Sp' c.S A1 k.sp k.cl k.hl d.cs k.hs := ⟨S.sp.len, S.sp.le, ⟨ds, by rw [S.lc]; exact hs1⟩, k1 _ _ S.c S.qc.symm, k1 _ _ (S.dk.g _ _ S.hh) (fun z => by
      have := S.hh
      rw [z, S.gq] at this
      cases this)⟩
    refine q_m (vs := []) (ev_fld (ev_var rfl) hq1 TT.cl TT.ns t_s) hs1 (NS.fl_no _ _ _ ⟨by decide +kernel, by decide +kernel, by decide +kernel⟩) ea_nil fun H2 e2 => ⟨k.sp, k.cl, k.hl, d.cs, k.hs, ds, rfl, SP1.ex e2, by rw [S.lc]; exact e2 _ _ hs1, fun hl H3 hhl0 e3 hhl => ?_⟩
    have hspx : (upd H3 k.sp (.ins c.S ds (flds d.cs.length k.cl hl))) k.sp = some (.ins c.S ds (flds d.cs.length k.cl hl)) := upd_same
    have k3 : ∀ a o, A1 a = some o → a ≠ k.sp → (upd H3 k.sp (.ins c.S ds (flds d.cs.length k.cl hl))) a = some o := fun a o h n => by
      rw [upd_ne n]
      exact (e2.trans e3) _ _ h
    have nlsp : hl ≠ k.sp := fun z => by
      rw [z, e2 _ _ hs1] at hhl0
      cases hhl0
    have hl3 : (upd H3 k.sp (.ins c.S ds (flds d.cs.length k.cl hl))) hl = some (.lst ((NS.pos d.cs).map V.bl)) := by
      rw [upd_ne nlsp]
      exact hhl
    have fb3 : ∀ a, (upd H3 k.sp (.ins c.S ds (flds d.cs.length k.cl hl))) a = none → A1 a = none := fun a h => by
      by_cases z : a = k.sp
      · rw [z, hspx] at h
        cases h
      · rw [upd_ne z] at h
        exact fresh_back (e2.trans e3) h
    generalize upd H3 k.sp (.ins c.S ds (flds d.cs.length k.cl hl)) = A3 at hspx k3 hl3 fb3 ⊢
    have hq3 := k3 _ _ hq1 qsp
    intro m hm
    have em : Ex A3 (upd A3 m (.dK [])) := Ex.new hm
    refine (ev_var rfl : Ev _ _ _ (.ref q)) _ (Ex.refl _) _ fun H5 e5 => ⟨q, c.T, dx, _, rfl, e5 _ _ (em _ _ hq3), TT.cl, TT.nm, by show 6 < 1000; decide, ?_⟩
    rw [t_ps]
    have n1 : H hl = none := fb1 _ (fresh_back e2 hhl0)
    have n2 : H m = none := fb1 _ (fb3 _ hm)
    have qn : ∀ {a : Addr}, H a = none → a ≠ q := fun h z => by
      rw [z, ho] at h
      cases h
    have far : ∀ {a : Addr} {o : HO}, A3 a = some o → a ≠ q → (upd H5 q (.ins c.T dx (sfl k.dp h2 k.sp k.tb d.r m))) a = some o := fun h n => by
      rw [upd_ne n]
      exact e5 _ _ (em _ _ h)
    obtain ⟨G', S', R'⟩ := ST.uh (H' := upd H5 q (.ins c.T dx (sfl k.dp h2 k.sp k.tb d.r m))) S gh2 (fun a o h nq ns => far (k3 _ _ (k1 _ _ h nq) ns) nq) n1 n2 (fun z => by rw [← z, hl3] at hm; cases hm) (ds := ds) (dq := dx) (by rw [← S.lc]; exact far hspx qsp.symm) upd_same (far hl3 (qn n1)) (by
      rw [upd_ne (qn n2)]
      exact e5 _ _ upd_same) (by unfold NS.pos; rw [List.length_map]; exact S.lc)
    exact qq G' _ hl m S' R' n1 n2
end
end NT

set_option Elab.async false
set_option linter.all false
set_option maxRecDepth 100000
set_option maxHeartbeats 4000000
namespace ND
open PySem PySem.Spec PyProof.Rows L2 Evl LK LT LG LS LQ LX LO LN LP
abbrev sLast : Stmt := inClass (top 16) 8
theorem scLast : FnScope ["self", "words"] ["self"] (defScope sLast) := ⟨rfl, rfl, rfl, by decide +kernel, rfl, by decide +kernel, by decide +kernel⟩
section
variable {P : Program} {w : World} {K : PySem.W.Frag} {mg : Str → Option Value} {base : Heap} {C CN CO : Addr}
theorem ok_last {f : Addr} {fd : FuncData} (F : Fun K "lasting" "Disk.lasting" sLast f fd) (T : Txt mg K C) : FnOk P w K mg base CX0 1 f fd ["self"] (spImgs C Dk.kept) := by
  refine F.ok scLast (fun vs H Q E h => ?_) (fun cdv A outer s H vs Q E hr h => ?_)
  · obtain ⟨G, p, ka, sa, wa, n, d, rfl, _⟩ := h
    rfl
  · obtain ⟨G, p, ka, sa, wa, n, d, rfl, D, q⟩ := h
    obtain ⟨dx, ho⟩ := D.o
    obtain ⟨ks, w1, w2, w3⟩ := D.k
    have hn1 := D.n1
    refine ⟨_, (pss_one (ps_ret (pe_lc (own := [("words", 1)]) (g := gName 1) (tt := tYes) rfl scLast.nd (pi_list (pe_fld (pv 0) rfl)) (blkOk_by (own := [("words", 1)]) (N := ["self", "words"]) (sc := defScope sLast) (by decide +kernel)) (fun _ _ _ _ _ => pg_name (i := 1) scLast.nd rfl (Or.inl rfl)) (fun _ _ _ _ _ => pts_nil) (fun _ _ _ _ _ => (pe_callTy (r := rListS K) call_list_of (by rfl) T.list (by decide +kernel) (pa_cons (pv 1) pa_nil)))))), ?_⟩
    refine er_ret (R := Rl H d.kept) (er_L (ev_fld (ev_var rfl) ho T.cl T.nk d_k) (sq_of w1) (by rw [List.length_map]; omega) (fun _ => rfl) (rl_mon _ _) (fun i x Dd H1 hD e1 hDn hx xs hxs hpre Q' q' => ?_)) fun L ys H1 hL e1 h1 hn hr => q L ys H1 hL e1 h1 (by rw [hn, List.length_map, w2]) hr
    rw [List.getElem?_map] at hx
    obtain ⟨t, ht, rfl⟩ := Option.map_eq_some_iff.mp hx
    have gH := D.g.trans e1
    refine el_list (K := K) (ev_var rfl) (sq_of (gH _ _ (w3 i t ht))) H1 (Ex.refl _) _ fun l2 H2 hl2 e2 h2 => q' (.ref l2) H2 e2 ⟨l2, rfl, fresh_back e1 hl2, but_new hDn hl2 h2, fun l' hl' e => ?_⟩
    obtain ⟨j, hj⟩ := List.mem_iff_getElem?.mp hl'
    obtain ⟨l3, e3, _, h6, _⟩ := hpre j _ hj
    cases e3
    have := but_ex _ _ h6
    rw [e, hl2] at this
    cases this
end
end ND

set_option Elab.async false
set_option linter.all false
set_option maxRecDepth 100000
set_option maxHeartbeats 4000000
namespace ND
open PySem PySem.Spec PyProof.Rows L2 Evl LK LT LG LS LQ LX LO LN LP LH LV LZ LW StX LD
abbrev sPl : Stmt := top 25
theorem scPl : FnScope ["generation"] ["generation"] (defScope sPl) := ⟨rfl, rfl, rfl, by decide +kernel, rfl, by decide +kernel, by decide +kernel⟩
abbrev sLm : Stmt := top 26
theorem scLm : FnScope ["disk", "at"] ["disk"] (defScope sLm) := ⟨rfl, rfl, rfl, by decide +kernel, rfl, by decide +kernel, by decide +kernel⟩
def markOf (S : Nat → List Int) : Int := topI (fun i => cellv (S (4 + i)) 7) 15
def spPl : Sp := fun vs H Q _ => ∃ g : Int, vs = [.int g] ∧ RetV (.int (g % 2)) H Q
def spLm (C Pm : Addr) : Sp := fun vs H Q _ => ∃ G p ka sa wa n d, vs = [.ref p] ∧ DK C G H p ka sa wa n d ∧ d.pw = true ∧ Tab H Pm ∧ RetV (.int (markOf (due d.kept d.ws))) H Q
section
variable {P : Program} {w : World} {K : PySem.W.Frag} {mg : Str → Option Value} {base : Heap} {C D CN CO CB Pm Pp : Addr}
theorem ok_pl {f : Addr} {fd : FuncData} (F : Fun K "place" "place" sPl f fd) (T : Txt mg K C) : FnOk P w K mg base CX0 1 f fd ["generation"] spPl := by
  refine F.ok scPl (fun vs H Q E h => ?_) (fun cdv A outer s H vs Q E hr h => ?_)
  · obtain ⟨g, rfl, _⟩ := h
    rfl
  · obtain ⟨g, rfl, q⟩ := h
    refine ⟨_, (pss_one (ps_ret (pe_op op_mod (pv 0) pe_int))), ?_⟩
    exact s_ret (ev_op (ev_var rfl) ev_c (rv_I (by show (0 : Int) < 2; decide))) q
theorem DK.dueLen {G H : Hp} {p ka sa wa : Addr} {n : Nat} {d : Dk} (D : DK C G H p ka sa wa n d) (s : Nat) : (due d.kept d.ws s).length = 8 := due_len D.kz (fun w hw => (D.ok w hw).2) s
theorem sl_read {G H : Hp} {p ka sa wa : Addr} {n : Nat} {d : Dk} {s : Nat} (D : DK C G H p ka sa wa n d) (hp : d.pw = true) (hs : s < 4 * n) : SpL (spRead C CN CO) [.ref p, .int (s : Int)] H ((due d.kept d.ws s).map V.int) := fun H1 e1 Q q E => ⟨G, p, ka, sa, wa, n, d, (s : Int), rfl, D.ex e1, fun _ s' e' hs' => by
  have : s' = s := by omega
  subst this
  exact q, (fun h => by rw [hp] at h; cases h), fun _ h => absurd ⟨by omega, by omega⟩ h⟩
theorem el_rd {G H : Hp} {p ka sa wa : Addr} {n : Nat} {d : Dk} {s : Nat} {σ : L2.St} {te ts : TE} {E : XK} (D : DK C G H p ka sa wa n d) (hp : d.pw = true) (hs : s < 4 * n) (h : Ev te σ H (.ref p)) (h2 : Ev ts σ H (.int (s : Int))) : EvL (tMeth C "read" (spRead C CN CO) [] E te (tCons ts tNil)) σ H ((due d.kept d.ws s).map V.int) := by
  obtain ⟨dx, ho⟩ := D.o
  exact el_meth h ho (d_no ⟨by decide +kernel, by decide +kernel, by decide +kernel, by decide +kernel, by decide +kernel, by decide +kernel⟩) (ea_cons h2 ea_nil) (sl_read D hp hs)
theorem ok_lm {f c f1 : Addr} {fd fd1 : FuncData} (F : FunC K "log_mark" "log_mark" sLm f fd c) (TB : LamX.TabB base mg c Pm) (Gread : FnOk P w K mg base (L2.CX P w) 3 f1 fd1 ["self", "sector"] (spRead C CN CO)) (bread : Binds K fd1 ["self", "sector"] []) (mread : Meth K C "read" f1) (T : NT.Txt mg) (TD : Txt mg K C) (tFS : ∃ t, mg "FIRST_SECTOR" = some (.int 4 t)) (tLW : ∃ t, mg "LAST_WORD" = some (.int 7 t)) (tLS : ∃ t, mg "LOG_SECTORS" = some (.int 16 t)) : FnOk P w K mg base CX0 5 f fd ["disk"] (spLm C Pm) := by
  obtain ⟨_, gFIRST_SECTOR⟩ := tFS
  obtain ⟨_, gLAST_WORD⟩ := tLW
  obtain ⟨_, gLOG_SECTORS⟩ := tLS
  refine F.ok scLm (fun vs H Q E h => ?_) (fun A outer s H vs Q E hr h => ?_)
  · obtain ⟨G, p, ka, sa, wa, n, d, rfl, _⟩ := h
    rfl
  · obtain ⟨G, p, ka, sa, wa, n, d, rfl, D, hp, hT, q⟩ := h
    refine ⟨_, (pss_one (ps_ret (LH.pe_gen (own := [("at", 1)]) (g := (gName 1)) (b := "max") (by first | rfl | decide +kernel) (fun _ _ _ _ _ _ _ _ ok R => LH.call_max_rdy ok R) hr scLm.nd (by rfl) T.max TB rfl ⟨rfl, by decide +kernel, rfl⟩ (blkOk_by (own := [("at", 1)]) (N := ["disk", "at"]) (sc := defScope sLm) (by decide +kernel)) (pi_range1 (by rfl) T.range (pa_cons (pe_glob (v := .int 16) rfl gLOG_SECTORS ⟨_, rfl⟩) pa_nil)) (fun _ => rfl) (fun _ _ _ _ _ _ _ => pg_name (i := 1) scLm.nd rfl (Or.inl rfl)) (fun _ _ _ _ _ _ hr => (pe_ix (r := rIxL K) ix_list (pe_meth (pv 0) TD.cl mread Gread (hr.mono (by decide)) bread .nil passL (pa_cons (pe_op op_add (pe_glob (v := .int 4) rfl gFIRST_SECTOR ⟨_, rfl⟩) (pv 1)) pa_nil)) (pe_glob (v := .int 7) rfl gLAST_WORD ⟨_, rfl⟩) (fun _ _ => rfl)))))), ?_⟩
    have n0 := D.n0
    refine s_ret (ev_gxR (n := 16) (ea_cons ev_c ea_nil) ⟨by decide, by decide⟩ hT (ok_max (fun i => cellv (due d.kept d.ws (4 + i)) 7) (by decide)) (fun _ => rfl) fun i H1 e1 hi => ?_) fun H1 e1 => q H1 e1
    refine ev_opL1 (el_rd (s := 4 + i) (D.ex e1) hp (by omega) (ev_var rfl) (ev_is (ev_op ev_c (ev_var rfl) rv_I0) (congrArg V.int (by push_cast; rfl)))) (fun _ _ => ev_c) fun l H2 hl e2 => rv_ixL (sq_of hl) (at_of rfl (cellv_in (by rw [D.dueLen]; decide)))
theorem sv_lm {G H : Hp} {p ka sa wa : Addr} {n : Nat} {d : Dk} (D : DK C G H p ka sa wa n d) (hp : d.pw = true) (hT : Tab H Pm) : SpV (spLm C Pm) [.ref p] H (.int (markOf (due d.kept d.ws))) := fun H1 e1 Q q E => ⟨G, p, ka, sa, wa, n, d, rfl, D.ex e1, hp, hT.mono e1, q⟩
end
end ND

set_option Elab.async false
set_option linter.all false
set_option maxRecDepth 100000
set_option maxHeartbeats 4000000
namespace K24
open PySem PySem.Spec PyProof.Rows L2 Evl LK LT LG LS LQ LX LO LN LP LH LV LZ LW StX LD
open ND (DK Dk St)
open NS (fr fr1 cv hv headV used In flds)
open NT (Cc Sk Sd ST SP Fm cont newB fre setM dropD TxT TxH tno memL Txt hfl sfl)
abbrev sHsec : Stmt := inClass (top 24) 1
theorem scHsec : FnScope ["self", "number", "birth"] ["self"] (defScope sHsec) := ⟨rfl, rfl, rfl, by decide +kernel, rfl, by decide +kernel, by decide +kernel⟩
abbrev sNh : Stmt := top 30
theorem scNh : FnScope ["store"] ["store"] (defScope sNh) := ⟨rfl, rfl, rfl, by decide +kernel, rfl, by decide +kernel, by decide +kernel⟩
abbrev sBst : Stmt := top 31
theorem scBst : FnScope ["store", "number", "words", "steps", "at", "start"] ["store", "number"] (defScope sBst) := ⟨rfl, rfl, rfl, by decide +kernel, rfl, by decide +kernel, by decide +kernel⟩
abbrev sCst : Stmt := top 32
theorem scCst : FnScope ["store", "mark", "steps", "number", "head"] ["store"] (defScope sCst) := ⟨rfl, rfl, rfl, by decide +kernel, rfl, by decide +kernel, by decide +kernel⟩
abbrev sCom : Stmt := top 33
theorem scCom : FnScope ["store", "steps", "step"] ["store"] (defScope sCom) := ⟨rfl, rfl, rfl, by decide +kernel, rfl, by decide +kernel, by decide +kernel⟩
/-! ### the steps of a commit -/
inductive Stp where
  | wr (s : Nat) (ws : List Int)
  | fl
def StV (N : Addr → Prop) (B : Hp) (t : Addr) : Stp → Prop
  | .wr s ws => ∃ l, N l ∧ B t = some (.tup [.str "write", .int (s : Int), .ref l]) ∧ B l = some (.lst (ws.map V.int))
  | .fl => B t = some (.tup [.str "flush"])
structure SL (N : Addr → Prop) (B : Hp) (xs : List V) (ss : List Stp) : Prop where
  n : xs.length = ss.length
  a : ∀ (i : Nat) s, ss[i]? = some s → ∃ t, xs[i]? = some (.ref t) ∧ StV N B t s
section
variable {N N' : Addr → Prop} {B B' : Hp} {xs ys zs : List V} {ss tt : List Stp} {t r : Addr} {s : Stp}
theorem StV.go (h : StV N B t s) (hn : ∀ l, N l → N' l) (e1 : ∀ a us, B a = some (.tup us) → B' a = some (.tup us)) (e2 : ∀ a us, N a → B a = some (.lst us) → B' a = some (.lst us)) : StV N' B' t s := by
  cases s with
  | fl => exact e1 _ _ h
  | wr s ws =>
    obtain ⟨l, h1, h2, h3⟩ := h
    exact ⟨l, hn _ h1, e1 _ _ h2, e2 _ _ h1 h3⟩
theorem SL.go (h : SL N B xs ss) (hn : ∀ l, N l → N' l) (e1 : ∀ a us, B a = some (.tup us) → B' a = some (.tup us)) (e2 : ∀ a us, N a → B a = some (.lst us) → B' a = some (.lst us)) : SL N' B' xs ss := ⟨h.n, fun i s hs => let ⟨t, h1, h2⟩ := h.a i s hs; ⟨t, h1, h2.go hn e1 e2⟩⟩
theorem SL.mono (h : SL N B xs ss) (e : Ex B B') : SL N B' xs ss := h.go (fun _ h => h) (fun _ _ h => e _ _ h) (fun _ _ _ h => e _ _ h)
theorem SL.upd (h : SL N B xs ss) (hr : B r = some (.lst ys)) (hn : ∀ l, N l → l ≠ r) : SL N (L2.upd B r (.lst zs)) xs ss := h.go (fun _ h => h) (fun a us h => by rw [upd_ne fun z => by rw [z, hr] at h; cases h]; exact h) (fun a us n h => by rw [upd_ne (hn a n)]; exact h)
theorem SL.nil : SL N B [] [] := ⟨rfl, fun i s h => by cases h⟩
theorem SL.app (h : SL N B xs ss) (g : SL N B ys tt) : SL N B (xs ++ ys) (ss ++ tt) := ⟨by rw [List.length_append, List.length_append, h.n, g.n], fun i s hs => by
  by_cases e : i < ss.length
  · rw [List.getElem?_append_left e] at hs
    rw [List.getElem?_append_left (by rw [h.n]; exact e)]
    exact h.a i s hs
  · rw [List.getElem?_append_right (by omega)] at hs
    rw [List.getElem?_append_right (by rw [h.n]; omega), h.n]
    exact g.a _ s hs⟩
theorem SL.one (h : StV N B t s) : SL N B [.ref t] [s] := ⟨rfl, fun i x hx => by
  cases i with
  | zero => cases hx; exact ⟨t, rfl, h⟩
  | succ i => cases hx⟩
end
def bsS (i : Nat) (ws : List Int) (m : Nat) : List Stp := (List.range m).map fun j => .wr (4 * i + j) ((ws.drop (8 * j)).take 8)
theorem bsS_succ (i : Nat) (ws : List Int) (m : Nat) : bsS i ws (m + 1) = bsS i ws m ++ [.wr (4 * i + m) ((ws.drop (8 * m)).take 8)] := by
  unfold bsS
  rw [List.range_succ, List.map_append]
  rfl
def spNh (c : Cc) : Sp := fun vs H Q _ => ∃ G q k d, vs = [.ref q] ∧ ST c G H q k d ∧ ∀ h dh H1, H h = none → Ex H H1 → H1 h = some (.ins c.H dh (hfl (k.g + 1) k.tb k.n)) → Q (.ref h) H1
def spHsec (c : Cc) : Sp := fun vs H Q _ => ∃ h dh tb g n a b, vs = [.ref h] ∧ H h = some (.ins c.H dh (hfl g tb n)) ∧ H tb = some (.tup [.int a, .int b]) ∧ RetL (([g, a, b, 4, n, 0, 0, g] : List Int).map V.int) H Q
def spBst (c : Cc) : Sp := fun vs H Q _ => ∃ G q k d, ∃ i : Nat, vs = [.ref q, .int (i : Int)] ∧ ST c G H q k d ∧ 5 ≤ i ∧ i < k.n ∧ (cont k d i).length = 32 ∧ ∀ p H1 xs, H p = none → Ex H H1 → H1 p = some (.lst xs) → SL (fun l => H l = none) H1 xs (bsS i (cont k d i) 4) → Q (.ref p) H1
section
variable {σ : L2.St} {H : Hp} {ta tt : TE} {tz : TS} {D : Ends} {sp : Sp} {E : XK} {C p dx : Addr} {m : Str} {fs : List (Str × V)} {us : List V} {i : Nat}
theorem q_runMU (ha : Ev ta σ H (.ref p)) (hi : H p = some (.ins C dx fs)) (hl : fs.lookup m = none) (ht : EvU tt σ H us) (k : ∀ x H1, H x = none → Ex H H1 → H1 x = some (.tup us) → sp [.ref p, .ref x] H1 (fun v H2 => tz D (σ.set i (some v)) H2) E) : tSeq (tAsg (tMeth C m sp [] E ta (tCons tt tNil)) (gName i)) tz D σ H :=
  ha H (Ex.refl _) _ fun H2 e2 => ⟨p, dx, fs, rfl, e2 _ _ hi, hl, ht H2 e2 _ fun c H3 hc e3 h3 => k c H3 (fresh_back e2 hc) (e2.trans e3) h3⟩
end
section
variable {K : PySem.W.Frag} {σ : L2.St} {H : Hp} {ta te tl t1 t2 t3 : TE} {D : Ends} {l : Addr} {xs ys : List V} {v1 v2 : V} {Q : VK}
theorem s_appR {Rv : V → Hp → Prop} (hl : H l = some (.lst xs)) (ha : Ev tl σ H (.ref l)) (h : ∀ H1, Ex H H1 → ∀ Q : VK, (∀ v H2, Ex H1 H2 → Rv v H2 → Q v H2) → te σ H1 Q) (hz : xs.length < 100000) (k : ∀ v H1, Ex H H1 → Rv v H1 → D.nx σ (upd H1 l (.lst (xs ++ [v])))) : tDrop (tBM K "list" rAppend tl (tCons te tNil)) D σ H :=
  ha H (Ex.refl H) _ fun H1 e1 => ⟨Or.inl ⟨rfl, xs, sq_of (e1 l _ hl)⟩, h H1 e1 _ fun v H2 e2 hv => ⟨l, xs, v, rfl, rfl, e2 l _ (e1 l _ hl), sz_lt hz, k v H2 (e1.trans e2) hv⟩⟩
theorem te_tup3L (h1 : Ev t1 σ H v1) (h2 : Ev t2 σ H v2) (h3 : EvL t3 σ H ys) {B : Hp} (b : Ex H B) (k : ∀ p l H1, B p = none → B l = none → Ex B H1 → H1 p = some (.tup [v1, v2, .ref l]) → H1 l = some (.lst ys) → Q (.ref p) H1) : tTup (tCons t1 (tCons t2 (tCons t3 tNil))) σ B Q :=
  h1 B b _ fun H1 e1 => h2 H1 (b.trans e1) _ fun H2 e2 => h3 H2 ((b.trans e1).trans e2) _ fun l H3 hl e3 hx => ⟨by show 3 ≤ sizeLine; decide, fun p hp => k p l _ (fresh_back ((e1.trans e2).trans e3) hp) (fresh_back (e1.trans e2) hl) (((e1.trans e2).trans e3).trans (Ex.new hp)) upd_same ((Ex.new hp) _ _ hx)⟩
end
section
variable {P : Program} {w : World} {K : PySem.W.Frag} {mg : Str → Option Value} {base : Heap} {c : Cc} {CN : Addr}
theorem ok_bst {f f1 f2 : Addr} {fd fd1 fd2 : FuncData} (F : Fun K "block_steps" "block_steps" sBst f fd)
    (Gread : FnOk P w K mg base (L2.CX P w) 5 f1 fd1 ["self", "pointer"] (NT.spRead c CN)) (bread : Binds K fd1 ["self", "pointer"] []) (mread : Meth K c.T "read" f1)
    (Ggeneration : FnOk P w K mg base CX0 1 f2 fd2 ["self"] (NT.spGen c)) (bgeneration : Binds K fd2 ["self"] []) (mgeneration : Meth K c.T "generation" f2)
    (T : Txt mg) (TT : TxT mg K c.T) (tSW : ∃ t, mg "SECTOR_WORDS" = some (.int 8 t)) (tBS : ∃ t, mg "BLOCK_SECTORS" = some (.int 4 t)) (tWR : ∃ t, mg "WRITE" = some (.str "write" t)) : FnOk P w K mg base CX0 6 f fd ["store", "number"] (spBst c) := by
  obtain ⟨_, gSECTOR_WORDS⟩ := tSW
  obtain ⟨_, gBLOCK_SECTORS⟩ := tBS
  obtain ⟨_, gWRITE⟩ := tWR
  refine F.ok (k := 5) scBst (fun vs H Q E h => ?_) (fun cdv A outer s H vs Q E hr h => ?_)
  · obtain ⟨G, q, k, d, i, rfl, _⟩ := h
    rfl
  · obtain ⟨G, q, k, d, i, rfl, S, h5, hi, h32, qq⟩ := h
    refine ⟨_, (pss_cons (ps_set (i := 2) scBst.nd rfl (Or.inl rfl) (pe_meth (pv 0) TT.cl mread Gread (hr.mono (by decide)) bread .nil passL (pa_cons (pe_tup (pa_cons (pv 1) (pa_cons (pe_meth0 (pv 0) TT.cl mgeneration Ggeneration (hr.mono (by decide)) bgeneration .nil pass0) pa_nil))) pa_nil)))
      (pss_cons (ps_set (i := 3) scBst.nd rfl (Or.inl rfl) (pe_lst pa_nil))
      (pss_cons (ps_for PassesOwn.never rfl (pi_range1 (by rfl) T.range (pa_cons (pe_glob (v := .int 4) rfl gBLOCK_SECTORS ⟨_, rfl⟩) pa_nil)) (pg_name (i := 4) scBst.nd rfl (Or.inl rfl)) (pss_cons (ps_set (i := 5) scBst.nd rfl (Or.inl rfl) (pe_op op_mul (pe_glob (v := .int 8) rfl gSECTOR_WORDS ⟨_, rfl⟩) (pv 4)))
      (pss_one (ps_expr (pe_bm PySem.F.plainAttrs_list PySem.F.slot_list_append PySem.F.type_list_append mt_append (pv 3) (pa_cons (pe_tup (pa_cons (pe_glob (v := .str "write") rfl gWRITE ⟨_, rfl⟩) (pa_cons (pe_op op_add (pe_op op_mul (pe_glob (v := .int 4) rfl gBLOCK_SECTORS ⟨_, rfl⟩) (pv 1)) (pv 4)) (pa_cons (pe_slice sl_list (pv 2) (po_some (pv 5)) (po_some (pe_op op_add (pv 5) (pe_glob (v := .int 8) rfl gSECTOR_WORDS ⟨_, rfl⟩)))) pa_nil)))) pa_nil))))))
      (pss_one (ps_ret (pv 3)))))), ?_⟩
    obtain ⟨dx, ho⟩ := S.o
    refine q_runMU (us := [.int (i : Int), .int (k.g + 1)]) (ev_var rfl) ho (tno (.inr (.inr (.inr (.inr (.inl rfl)))))) (eu_tup (ea_cons (ev_var rfl) (ea_cons (ev_meth0 (ev_var rfl) ho (tno (.inl rfl)) (NT.sv_gen S)) ea_nil)) (by simp)) fun x B1 _ b1 hx => ⟨G, q, k, d, x, _, [.int (k.g + 1)], rfl, S.ex b1, hx, fun i' hi' _ _ => ?_, fun hno => absurd ⟨by omega, by omega⟩ hno⟩
    obtain rfl : i = i' := by omega
    intro u B2 hu b2 hux
    have b12 := b1.trans b2
    refine q_asgL (el_lst ea_nil (by decide)) fun p B3 hp b3 hpx => ?_
    have b13 := b12.trans b3
    refine q_forR1 (n := 4) (ea_cons ev_c ea_nil) ⟨by decide, by decide⟩ (fun j σ' B => ∃ xs y4 y5, σ' = [some (.ref q), some (.int (i : Int)), some (.ref u), some (.ref p), y4, y5] ∧ Ex H B ∧ B u = some (.lst ((cont k d i).map V.int)) ∧ B p = some (.lst xs) ∧ SL (fun l => H l = none ∧ l ≠ p) B xs (bsS i (cont k d i) j)) (fun B b => ⟨[], none, none, rfl, b13.trans b, (b3.trans b) _ _ hux, b _ _ hpx, SL.nil⟩) ?_ ?_
    · rintro j σ' B hj ⟨xs, y4, y5, rfl, eB, hu', hp', hS⟩
      have hj : j < 4 := by omega
      refine q_asg (v := .int (8 * (j : Int))) (ev_op ev_c (ev_var rfl) (rv_I (.inl ⟨by decide, by decide⟩))) fun B4 b4 => ?_
      have hpn : H p = none := fresh_back b12 hp
      refine s_appR (Rv := fun v B' => ∃ t l, v = .ref t ∧ H l = none ∧ l ≠ p ∧ B' t = some (.tup [.str "write", .int ((4 * i + j : Nat) : Int), .ref l]) ∧ B' l = some (.lst ((((cont k d i).drop (8 * j)).take 8).map V.int))) (b4 _ _ hp') (ev_var rfl) (fun B5 b5 Q1 q1 => te_tup3L ev_c (ev_is (ev_op (ev_op ev_c (ev_var rfl) (rv_I (.inl ⟨by decide, by decide⟩))) (ev_var rfl) rv_I0) (by push_cast; rfl)) (el_is (ys := (((cont k d i).drop (8 * j)).take 8).map V.int) (el_sl (ev_var rfl) (eo_some (ev_var rfl)) (eo_some (ev_op (ev_var rfl) ev_c rv_I0)) (sq_of (b4 _ _ hu'))) (by
        rw [show (8 : Int) * (j : Int) + 8 = ((8 * j + 8 : Nat) : Int) by push_cast; rfl, show (8 : Int) * (j : Int) = ((8 * j : Nat) : Int) by push_cast; rfl, cut_mid _ (by omega) (by rw [List.length_map]; omega), show 8 * j + 8 - 8 * j = 8 by omega, List.map_take, List.map_drop])) b5 fun t l B6 ht hl b6 htx hlx => q1 _ _ b6 ⟨t, l, rfl, fresh_back ((eB.trans b4).trans b5) hl, (fun z => by rw [z, b5 _ _ (b4 _ _ hp')] at hl; cases hl), htx, hlx⟩) (by rw [hS.n]; unfold bsS; rw [List.length_map, List.length_range]; omega) fun v B5 b5 ⟨t, l, hv, n1, n2, htx, hlx⟩ => ?_
      subst hv
      have hS5 := (hS.mono (b4.trans b5)).app (SL.one (N := fun l => H l = none ∧ l ≠ p) (s := .wr (4 * i + j) (((cont k d i).drop (8 * j)).take 8)) (t := t) ⟨l, ⟨n1, n2⟩, htx, hlx⟩)
      rw [← bsS_succ] at hS5
      refine ⟨_, _, _, rfl, ((eB.trans b4).trans b5).mut hpn, ?_, upd_same, hS5.upd ((b4.trans b5) _ _ hp') fun l h => h.2⟩
      rw [upd_ne fun z => by rw [z] at hux; rw [hux] at hp; cases hp]
      exact (b4.trans b5) _ _ hu'
    · rintro σ' B ⟨xs, y4, y5, rfl, eB, hu', hp', hS⟩
      exact s_ret (ev_var rfl) fun B4 b4 => qq p B4 xs (fresh_back b12 hp) (eB.trans b4) (b4 _ _ hp') ((hS.mono b4).go (fun l h => h.1) (fun _ _ h => h) (fun _ _ _ h => h))
end

end K24

set_option Elab.async false
set_option linter.all false
set_option maxRecDepth 100000
set_option maxHeartbeats 4000000
namespace K24
open PySem PySem.Spec PyProof.Rows L2 Evl LK LT LG LS LQ LX LO LN LP LH LV LZ LW StX LD
open ND (DK Dk St)
open NS (fr fr1 cv hv headV used In flds)
open NT (Cc Sk Sd ST SP Fm cont newB fre setM dropD TxT TxH tno memL Txt hfl sfl)
/-! ### the next head and its sector -/
section
variable {K : PySem.W.Frag} {σ : L2.St} {H : Hp} {te : TE} {D : Ends} {tz : TS} {p : Addr} {x y : V} {i j : Nat}
theorem q_unpV (h : Ev te σ H (.ref p)) (hp : H p = some (.tup [x, y])) (k : ∀ H1, Ex H H1 → tz D ((σ.set i (some x)).set j (some y)) H1) : tSeq (tAsg te (gTup K 2 (gCons (gName i) (gCons (gName j) gNil)))) tz D σ H := h H (Ex.refl _) _ fun H1 e => ⟨p, [x, y], rfl, st_of (e _ _ hp), rfl, x, [y], rfl, y, [], rfl, rfl, k H1 e⟩
end
theorem r_make {C : Addr} {sp : Sp} {σ : L2.St} {H : Hp} {t : TA} {vs : List V} {E : XK} {D : Ends} (ht : EvA t σ H vs) (k : ∀ p dx H1 H2, H p = none → H1 p = none → Ex H H1 → H2 p = some (.ins C dx []) → Ex H1 H2 → sp (.ref p :: vs) H2 (fun v H3 => v = .non ∧ D.rt (.ref p) H3) E) : tRet (tMake C sp [] E t) D σ H := ht H (Ex.refl _) _ fun H1 e1 p dx hp hd hne => by
  simp only [List.append_nil]
  exact k p dx H1 _ (fresh_back e1 hp) hp e1 upd_same ((Ex.new hd).mut hp)
section
variable {P : Program} {w : World} {K : PySem.W.Frag} {mg : Str → Option Value} {base : Heap} {c : Cc}
theorem ok_hsec {f : Addr} {fd : FuncData} (F : Fun K "sector" "Head.sector" sHsec f fd) (TH : TxH mg K c.H) (tLB : ∃ t, mg "LOG_BLOCKS" = some (.int 4 t)) : FnOk P w K mg base CX0 1 f fd ["self"] (spHsec c) := by
  obtain ⟨_, gLOG_BLOCKS⟩ := tLB
  refine F.ok scHsec (fun vs H Q E h => ?_) (fun cdv A outer s H vs Q E hr h => ?_)
  · obtain ⟨h, dh, tb, g, n, a, b, rfl, _⟩ := h
    rfl
  · obtain ⟨h, dh, tb, g, n, a, b, rfl, hh, htb, q⟩ := h
    refine ⟨_, (pss_cons (ps_asg (pe_fld (pv 0) rfl) (pg_tup (by rfl) (pgs_cons (pg_name (i := 1) scHsec.nd rfl (Or.inl rfl)) (pgs_cons (pg_name (i := 2) scHsec.nd rfl (Or.inl rfl)) pgs_nil))))
      (pss_one (ps_ret (pe_lst (pa_cons (pe_fld (pv 0) rfl) (pa_cons (pv 1) (pa_cons (pv 2) (pa_cons (pe_glob (v := .int 4) rfl gLOG_BLOCKS ⟨_, rfl⟩) (pa_cons (pe_fld (pv 0) rfl) (pa_cons pe_int (pa_cons pe_int (pa_cons (pe_fld (pv 0) rfl) pa_nil)))))))))))), ?_⟩
    refine q_unpV (ev_fld (ev_var rfl) hh TH.cl TH.nt rfl) htb fun H1 e1 => ?_
    have hh1 := e1 _ _ hh
    exact s_retL (el_lst (ea_cons (ev_fld (ev_var rfl) hh1 TH.cl TH.ng rfl) (ea_cons (ev_var rfl) (ea_cons (ev_var rfl) (ea_cons ev_c (ea_cons (ev_fld (ev_var rfl) hh1 TH.cl TH.nb rfl) (ea_cons ev_c (ea_cons ev_c (ea_cons (ev_fld (ev_var rfl) hh1 TH.cl TH.ng rfl) ea_nil)))))))) (by simp)) fun p H2 hp e2 hx => q p H2 (fresh_back e1 hp) (e1.trans e2) hx
theorem ok_nh {f f1 f2 : Addr} {fd fd1 fd2 : FuncData} (F : Fun K "next_head" "next_head" sNh f fd) (MH : L2.Mk K c.H f1) (Ghinit : FnOk P w K mg base CX0 1 f1 fd1 ["self", "generation", "table", "blocks"] (NT.spHin c)) (bhinit : Binds K fd1 ["self", "generation", "table", "blocks"] [])
    (Ggeneration : FnOk P w K mg base CX0 1 f2 fd2 ["self"] (NT.spGen c)) (bgeneration : Binds K fd2 ["self"] []) (mgeneration : Meth K c.T "generation" f2) (TT : TxT mg K c.T) (TH : TxH mg K c.H) (TD : ND.Txt mg K c.D) : FnOk P w K mg base CX0 3 f fd ["store"] (spNh c) := by
  refine F.ok (k := 2) scNh (fun vs H Q E h => ?_) (fun cdv A outer s H vs Q E hr h => ?_)
  · obtain ⟨G, q, k, d, rfl, _⟩ := h
    rfl
  · obtain ⟨G, q, k, d, rfl, S, qq⟩ := h
    refine ⟨_, (pss_one (ps_ret (pe_make MH Ghinit (hr.mono (by decide)) (by rfl) TH.mgC bhinit .nil pass0 (pa_cons (pe_meth0 (pv 0) TT.cl mgeneration Ggeneration (hr.mono (by decide)) bgeneration .nil pass0) (pa_cons (pe_fld (pv 0) rfl) (pa_cons (pe_fld (pe_fld (pv 0) rfl) rfl) pa_nil)))))), ?_⟩
    obtain ⟨dx, ho⟩ := S.o
    obtain ⟨dd, hd⟩ := S.dk.o
    refine r_make (vs := [.int (k.g + 1), .ref k.tb, .int (k.n : Int)]) (ea_cons (ev_meth0 (ev_var rfl) ho (tno (.inl rfl)) (NT.sv_gen S)) (ea_cons (ev_fld (ev_var rfl) ho TT.cl TT.nt NT.t_t) (ea_cons (ev_fld (ev_fld (ev_var rfl) ho TT.cl TT.nd NT.t_d) hd TD.cl TD.nb rfl) ea_nil))) fun p dx H1 H2 hp _ e1 hpx e2 => ⟨p, k.tb, dx, k.g + 1, k.n, rfl, hpx, fun H3 bx hp3 => ⟨rfl, qq p dx H3 hp (fun x o h => bx x o (fun z => by rw [z, hp] at h; cases h) ((e1.trans e2) _ _ h)) hp3⟩⟩
end

end K24

set_option Elab.async false
set_option linter.all false
set_option maxRecDepth 100000
set_option maxHeartbeats 4000000
namespace K24
open PySem PySem.Spec PyProof.Rows L2 Evl LK LT LG LS LQ LX LO LN LP LH LV LZ LW StX LD
open ND (DK Dk St)
open NS (fr fr1 cv hv headV used In flds)
open NT (Cc Sk Sd ST SP Fm cont newB fre setM dropD TxT TxH tno memL Txt hfl sfl)
/-! ### commit_steps -/
def tlS (g a b n : Int) : List Stp := [.fl, .wr ((g + 1) % 2).toNat [g + 1, a, b, 4, n, 0, 0, g + 1], .fl]
def nbS (k : Sk) (d : Sd) (ls : List Nat) : List Stp := ls.flatMap fun x => bsS x (cont k d x) 4
def csS (k : Sk) (d : Sd) (a b a2 b2 : Int) : List Stp := if PyData.eqv (.tuple ([a, b].map PyData.int)) (.tuple ([a2, b2].map PyData.int)) = true ∧ ND.markOf k.f < k.g then [] else nbS k d (memL k d) ++ tlS k.g a b k.n
theorem nbS_len (k : Sk) (d : Sd) : ∀ ls : List Nat, (nbS k d ls).length = 4 * ls.length
  | [] => rfl
  | x :: r => by
    have := nbS_len k d r
    unfold nbS at this ⊢
    rw [List.flatMap_cons, List.length_append, this, List.length_cons]
    unfold bsS
    rw [List.length_map, List.length_range]
    omega
theorem nbS_snoc (k : Sk) (d : Sd) (ls : List Nat) (x : Nat) : nbS k d (ls ++ [x]) = nbS k d ls ++ bsS x (cont k d x) 4 := by
  unfold nbS
  rw [List.flatMap_append, List.flatMap_cons, List.flatMap_nil, List.append_nil]
def spCst (c : Cc) (Pm : Addr) : Sp := fun vs H Q _ => ∃ G q k d a b a2 b2, vs = [.ref q] ∧ ST c G H q k d ∧ H k.tb = some (.tup ([a, b].map V.int)) ∧ H k.th = some (.tup ([a2, b2].map V.int)) ∧ Tab H Pm ∧ 0 ≤ k.g ∧ (∀ x ∈ memL k d, 5 ≤ x ∧ (cont k d x).length = 32) ∧ (memL k d).length < 64 ∧
  ∀ p H1 xs, H p = none → Ex H H1 → H1 p = some (.lst xs) → SL (fun l => H l = none) H1 xs (csS k d a b a2 b2) → Q (.ref p) H1
section
variable {K : PySem.W.Frag} {σ : L2.St} {H : Hp} {ta te t1 t2 t3 : TE} {tA : TA} {D : Ends} {sp : Sp} {E : XK} {l : Addr} {xs zs vs u1 u3 : List V} {v1 v2 : V}
theorem s_extC (hl : H l = some (.lst xs)) (ha : Ev ta σ H (.ref l)) (h : EvA tA σ H vs) (k : ∀ H1, Ex H H1 → sp vs H1 (fun v H2 => rExtend (.ref l) [v] H2 fun _ H3 => D.nx σ H3) E) : tDrop (tBM K "list" rExtend ta (tCons (tCall sp [] E tA) tNil)) D σ H := ha H (Ex.refl H) _ fun H1 e1 =>
  ⟨Or.inl ⟨rfl, xs, sq_of (e1 l _ hl)⟩, h H1 e1 _ fun H2 e2 => by
    rw [List.append_nil]
    exact k H2 (e1.trans e2)⟩
theorem r_cat3 (ha : Ev ta σ H (.ref l)) (hl : H l = some (.lst xs)) (h1 : EvU t1 σ H u1) (h2 : ∀ B, Ex H B → ∀ Q : VK, (∀ p c B', B p = none → B c = none → Ex B B' → B' p = some (.tup [v1, v2, .ref c]) → B' c = some (.lst zs) → Q (.ref p) B') → t2 σ B Q) (h3 : EvU t3 σ H u3) (hz : xs.length + 3 ≤ 100000) (k : ∀ r p1 p2 c p3 H1, H r = none → H c = none → Ex H H1 → H1 r = some (.lst (xs ++ [.ref p1, .ref p2, .ref p3])) → H1 p1 = some (.tup u1) → H1 p2 = some (.tup [v1, v2, .ref c]) → H1 c = some (.lst zs) → H1 p3 = some (.tup u3) → D.rt (.ref r) H1) : tRet (tOp rCat ta (tLst (tCons t1 (tCons t2 (tCons t3 tNil))))) D σ H :=
  ha H (Ex.refl _) _ fun H1 e1 => h1 H1 e1 _ fun p1 H2 _ e2 x1 => h2 H2 (e1.trans e2) _ fun p2 c H3 _ hc e3 x2 x2c => h3 H3 ((e1.trans e2).trans e3) _ fun p3 H4 _ e4 x3 => ⟨by show 3 ≤ sizeLine; decide, fun b hb => by
    have eb : Ex H4 (upd H4 b (.lst [.ref p1, .ref p2, .ref p3])) := Ex.new hb
    have e14 := ((e1.trans e2).trans e3).trans e4
    refine ⟨l, b, xs, [.ref p1, .ref p2, .ref p3], rfl, rfl, (e14.trans eb) _ _ hl, upd_same, sz_of hz, fun r hr => ?_⟩
    have er := Ex.new (o := .lst (xs ++ [.ref p1, .ref p2, .ref p3])) hr
    have e4r := eb.trans er
    exact k r p1 p2 c p3 _ (fresh_back (e14.trans eb) hr) (fresh_back (e1.trans e2) hc) (e14.trans e4r) upd_same (((e3.trans e4).trans e4r) _ _ x1) ((e4.trans e4r) _ _ x2) ((e4.trans e4r) _ _ x2c) (e4r _ _ x3)⟩
end
section
variable {P : Program} {w : World} {K : PySem.W.Frag} {mg : Str → Option Value} {base : Heap} {c : Cc} {Pm : Addr}
theorem ok_cst {f f1 f2 f3 f4 f5 f6 : Addr} {fd fd1 fd2 fd3 fd4 fd5 fd6 : FuncData} (F : Fun K "commit_steps" "commit_steps" sCst f fd)
    (FLm : Fun K "log_mark" "log_mark" ND.sLm f1 fd1) (GLm : FnOk P w K mg base CX0 5 f1 fd1 ["disk"] (ND.spLm c.D Pm)) (bLm : Binds K fd1 ["disk"] []) (gLm : mg "log_mark" = some (.ref f1))
    (FBst : Fun K "block_steps" "block_steps" sBst f2 fd2) (GBst : FnOk P w K mg base CX0 6 f2 fd2 ["store", "number"] (spBst c)) (bBst : Binds K fd2 ["store", "number"] []) (gBst : mg "block_steps" = some (.ref f2))
    (FNh : Fun K "next_head" "next_head" sNh f3 fd3) (GNh : FnOk P w K mg base CX0 3 f3 fd3 ["store"] (spNh c)) (bNh : Binds K fd3 ["store"] []) (gNh : mg "next_head" = some (.ref f3))
    (FPl : Fun K "place" "place" ND.sPl f4 fd4) (GPl : FnOk P w K mg base CX0 1 f4 fd4 ["generation"] ND.spPl) (bPl : Binds K fd4 ["generation"] []) (gPl : mg "place" = some (.ref f4))
    (Gsector : FnOk P w K mg base CX0 1 f5 fd5 ["self"] (spHsec c)) (bsector : Binds K fd5 ["self"] []) (msector : Meth K c.H "sector" f5)
    (Gnew_blocks : FnOk P w K mg base CX0 1 f6 fd6 ["self"] (NT.spNb c)) (bnew_blocks : Binds K fd6 ["self"] []) (mnew_blocks : Meth K c.T "new_blocks" f6)
    (T : Txt mg) (TT : TxT mg K c.T) (TH : TxH mg K c.H) (tWR : ∃ t, mg "WRITE" = some (.str "write" t)) (tFL : ∃ t, mg "FLUSH" = some (.str "flush" t)) : FnOk P w K mg base CX0 7 f fd ["store"] (spCst c Pm) := by
  obtain ⟨_, gWRITE⟩ := tWR
  obtain ⟨_, gFLUSH⟩ := tFL
  refine F.ok (k := 6) scCst (fun vs H Q E h => ?_) (fun cdv A outer s H vs Q E hr h => ?_)
  · obtain ⟨G, q, k, d, a, b, a2, b2, rfl, _⟩ := h
    rfl
  · obtain ⟨G, q, k, d, a, b, a2, b2, rfl, S, htb, hth, hT, g0, hm, h64, qq⟩ := h
    refine ⟨_, (pss_cons (ps_set (i := 1) scCst.nd rfl (Or.inl rfl) (pe_call GLm (hr.mono (by decide)) (by rfl) gLm FLm.kp bLm .nil pass0 (pa_cons (pe_fld (pv 0) rfl) pa_nil)))
      (pss_cons (ps_if (PW.pt (pw_and (pt_cmpR (op_eqD hr.units) (pe_fld (pv 0) rfl) (pe_fld (pe_fld (pv 0) rfl) rfl) (nomark _)) (pw_and1 (pt_cmpR op_lt (pv 1) (pe_fld (pe_fld (pv 0) rfl) rfl) (nomark _))))) (pss_one (ps_ret (pe_lst pa_nil))) pss_nil)
      (pss_cons (ps_set (i := 2) scCst.nd rfl (Or.inl rfl) (pe_lst pa_nil))
      (pss_cons (ps_for PassesOwn.never rfl (pi_list (pe_meth0 (pv 0) TT.cl mnew_blocks Gnew_blocks (hr.mono (by decide)) bnew_blocks .nil pass0)) (pg_name (i := 3) scCst.nd rfl (Or.inl rfl)) (pss_one (ps_expr (pe_bm PySem.F.plainAttrs_list PySem.F.slot_list_extend PySem.F.type_list_extend mt_extend (pv 2) (pa_cons (pe_call GBst (hr.mono (by decide)) (by rfl) gBst FBst.kp bBst .nil pass0 (pa_cons (pv 0) (pa_cons (pv 3) pa_nil))) pa_nil)))))
      (pss_cons (ps_set (i := 4) scCst.nd rfl (Or.inl rfl) (pe_call GNh (hr.mono (by decide)) (by rfl) gNh FNh.kp bNh .nil pass0 (pa_cons (pv 0) pa_nil)))
      (pss_one (ps_ret (pe_op op_cat (pv 2) (pe_lst (pa_cons (pe_tup (pa_cons (pe_glob (v := .str "flush") rfl gFLUSH ⟨_, rfl⟩) pa_nil)) (pa_cons (pe_tup (pa_cons (pe_glob (v := .str "write") rfl gWRITE ⟨_, rfl⟩) (pa_cons (pe_call GPl (hr.mono (by decide)) (by rfl) gPl FPl.kp bPl .nil pass0 (pa_cons (pe_fld (pv 4) rfl) pa_nil)) (pa_cons (pe_meth0 (pv 4) TH.cl msector Gsector (hr.mono (by decide)) bsector .nil pass0) pa_nil)))) (pa_cons (pe_tup (pa_cons (pe_glob (v := .str "flush") rfl gFLUSH ⟨_, rfl⟩) pa_nil)) pa_nil)))))))))))), ?_⟩
    obtain ⟨dx, ho⟩ := S.o
    obtain ⟨dh, gh⟩ := S.h
    have hh := S.dk.g _ _ gh
    refine q_asg (v := .int (ND.markOf k.f)) (ev_is (ev_call (vs := [.ref k.dp]) (ea_cons (ev_fld (ev_var rfl) ho TT.cl TT.nd NT.t_d) ea_nil) (ND.sv_lm S.dk rfl hT)) (congrArg (fun f => V.int (ND.markOf f)) (show ND.due k.f [] = k.f from rfl))) fun B1 c1 => ?_
    refine q_when (b := PyData.eqv (.tuple ([a, b].map PyData.int)) (.tuple ([a2, b2].map PyData.int)) && decide (ND.markOf k.f < k.g)) (et_and (et_test (ev_op (ev_fld (ev_var rfl) (c1 _ _ ho) TT.cl TT.nt NT.t_t) (ev_fld (ev_fld (ev_var rfl) (c1 _ _ ho) TT.cl TT.nh NT.t_h) (c1 _ _ hh) TH.cl TH.nt rfl) (rv_eqDD (.tup (st_of (c1 _ _ htb)) (dp_ints _)) (.tup (st_of (c1 _ _ hth)) (dp_ints _)) (sh_tup (sh_ints _)) (sh_tup (sh_ints _)) (by decide)))) (fun _ => et_test (ev_op (ev_var rfl) (ev_fld (ev_fld (ev_var rfl) (c1 _ _ ho) TT.cl TT.nh NT.t_h) (c1 _ _ hh) TH.cl TH.ng rfl) rv_I0))) (fun hb B2 c2 => ?_) (fun hb B2 c2 => ?_)
    · rw [Bool.and_eq_true, decide_eq_true_iff] at hb
      exact s_retL (el_lst ea_nil (by decide)) fun p B3 hp c3 hx => qq p B3 [] (fresh_back (c1.trans c2) hp) ((c1.trans c2).trans c3) hx (by unfold csS; rw [if_pos hb]; exact SL.nil)
    · have hne : ¬ (PyData.eqv (.tuple ([a, b].map PyData.int)) (.tuple ([a2, b2].map PyData.int)) = true ∧ ND.markOf k.f < k.g) := fun z => by
        rw [z.1, decide_eq_true z.2] at hb
        cases hb
      have c12 := c1.trans c2
      refine q_asgL (el_lst ea_nil (by decide)) fun r B3 hr0 c3 hrx => ?_
      have c13 := c12.trans c3
      have hrn : H r = none := fresh_back c12 hr0
      refine q_forNL (xs := (memL k d).map fun i : Nat => V.int (i : Int)) (el_meth (ev_var rfl) (c13 _ _ ho) (tno (.inr (.inr (.inr (.inr (.inr (.inr (.inr (.inr (.inr (.inr (.inr (.inl rfl))))))))))))) ea_nil (fun A e Q q' E' => ⟨G, q, k, d, rfl, S.ex (c13.trans e), h64, q'⟩)) (fun lp i σ' B => ∃ ys y3, σ' = [some (.ref q), some (.int (ND.markOf k.f)), some (.ref r), y3, none] ∧ Ex H B ∧ B lp = some (.lst ((memL k d).map fun i : Nat => V.int (i : Int))) ∧ lp ≠ r ∧ B r = some (.lst ys) ∧ SL (fun l => H l = none ∧ l ≠ r) B ys (nbS k d ((memL k d).take i))) (fun lp B hlp e hx => ⟨[], none, rfl, c13.trans e, hx, (fun z => by rw [z, hrx] at hlp; cases hlp), e _ _ hrx, SL.nil⟩) (fun lp i σ' B _ ⟨ys, y3, _, _, h, _⟩ => sq_of h) ?_ ?_
      · rintro lp i x σ' B hx ⟨ys, y3, rfl, eB, hlp, nlp, hr, hS⟩
        rw [List.getElem?_map] at hx
        obtain ⟨n, hn, rfl⟩ := Option.map_eq_some_iff.mp hx
        have hmem := List.mem_of_getElem? hn
        obtain ⟨n5, n32⟩ := hm n hmem
        have hnlt : n < k.n := List.mem_range.mp (List.mem_filter.mp hmem).1
        refine s_extC (vs := [.ref q, .int (n : Int)]) hr (ev_var rfl) (ea_cons (ev_var rfl) (ea_cons (ev_var rfl) ea_nil)) fun B4 c4 => ⟨G, q, k, d, n, rfl, S.ex (eB.trans c4), n5, hnlt, n32, fun p B5 zs hp c5 hpx hz => ?_⟩
        have c45 := c4.trans c5
        have hSz := (hS.mono c45).app (hz.go (N' := fun l => H l = none ∧ l ≠ r) (fun l h => ⟨fresh_back (eB.trans c4) h, fun z => by rw [z, c4 _ _ hr] at h; cases h⟩) (fun _ _ h => h) (fun _ _ _ h => h))
        have hlen := hSz.n
        rw [← nbS_snoc, show (memL k d).take i ++ [n] = (memL k d).take (i + 1) by rw [List.take_add_one, hn]; rfl] at hSz
        have hl2 := hSz.n
        rw [nbS_len, List.length_take, List.length_append] at hl2
        refine ⟨r, p, ys, zs, rfl, rfl, c45 _ _ hr, hpx, sz_of (by omega), ?_⟩
        refine ⟨ys ++ zs, _, rfl, (eB.trans c45).mut hrn, ?_, nlp, upd_same, hSz.upd (c45 _ _ hr) fun l h => h.2⟩
        rw [upd_ne nlp]
        exact c45 _ _ hlp
      · rintro lp σ' B ⟨ys, y3, rfl, eB, hlp, nlp, hr, hS⟩
        rw [List.length_map, List.take_length] at hS
        have hys := hS.n
        rw [nbS_len] at hys
        refine q_run (vs := [.ref q]) (ea_cons (ev_var rfl) ea_nil) fun B4 c4 => ⟨G, q, k, d, rfl, S.ex (eB.trans c4), fun h dh2 B5 hh0 c5 hhx => ?_⟩
        have c45 := c4.trans c5
        have e5 := eB.trans c45
        have htb5 := e5 _ _ htb
        refine r_cat3 (u1 := [.str "flush"]) (u3 := [.str "flush"]) (v1 := .str "write") (v2 := .int ((((k.g + 1) % 2).toNat : Nat) : Int)) (zs := ([k.g + 1, a, b, 4, (k.n : Int), 0, 0, k.g + 1] : List Int).map V.int) (ev_var rfl) (c45 _ _ hr) (eu_tup (ea_cons ev_c ea_nil) (by simp)) (fun B e Q1 q1 => te_tup3L ev_c (ev_is (ev_call (vs := [.int (k.g + 1)]) (ea_cons (ev_fld (ev_var rfl) hhx TH.cl TH.ng rfl) ea_nil) (fun A e' Q q' E' => ⟨k.g + 1, rfl, q'⟩)) (by congr 1; omega)) (el_meth (ev_var rfl) hhx rfl ea_nil (fun A e' Q q' E' => ⟨h, dh2, k.tb, k.g + 1, k.n, a, b, rfl, e' _ _ hhx, e' _ _ htb5, q'⟩)) e q1) (eu_tup (ea_cons ev_c ea_nil) (by simp)) (by omega) fun rr p1 p2 cc p3 B6 hrr hcc c6 x1 x2 x3 x4 x5 => ?_
        refine qq rr B6 _ (fresh_back e5 hrr) (e5.trans c6) x1 ?_
        unfold csS
        rw [if_neg hne]
        have hS6 := ((hS.mono (c45.trans c6)).go (N' := fun l => H l = none) (fun l h => h.1) (fun _ _ h => h) (fun _ _ _ h => h)).app (((SL.one (N := fun l => H l = none) (s := .fl) (t := p1) x2).app (SL.one (s := .wr ((k.g + 1) % 2).toNat [k.g + 1, a, b, 4, k.n, 0, 0, k.g + 1]) (t := p2) ⟨cc, fresh_back e5 hcc, x3, x4⟩)).app (SL.one (s := .fl) (t := p3) x5))
        exact hS6
end

end K24

set_option Elab.async false
set_option linter.all false
set_option maxRecDepth 100000
set_option maxHeartbeats 4000000
namespace K24
open PySem PySem.Spec PyProof.Rows L2 Evl LK LT LG LS LQ LX LO LN LP LH LV LZ LW StX LD
open ND (DK Dk St)
open NS (fr fr1 cv hv headV used In flds)
open NT (Cc Sk Sd ST SP Fm cont newB fre setM dropD TxT TxH tno memL Txt hfl sfl)
/-! ### a store beside its disk -/
structure Rt (c : Cc) (G H : Hp) (q : Addr) (k : Sk) (d : Sd) : Prop where
  o : ∃ dx, H q = some (.ins c.T dx (sfl k.dp k.hp k.sp k.tb d.r k.m))
  gq : G q = none
  h : ∃ dx, G k.hp = some (.ins c.H dx (hfl k.g k.th k.n))
  s : ∃ dx, G k.sp = some (.ins c.S dx (flds k.n k.cl k.hl))
  c : H k.cl = some (.lst (d.cs.map V.int))
  gc : G k.cl = none
  hh : G k.hl = some (.lst (k.hs.map V.bl))
  lc : d.cs.length = k.n
  lh : k.hs.length = k.n
  mm : ∃ kvs, H k.m = some (.dK kvs) ∧ NT.Mem G k.n kvs d.mem
  gm : G k.m = none
  q1 : q ≠ k.dp ∧ q ≠ k.ka ∧ q ≠ k.sa ∧ q ≠ k.wa
  c1 : k.cl ≠ k.dp ∧ k.cl ≠ k.ka ∧ k.cl ≠ k.sa ∧ k.cl ≠ k.wa
  m1 : k.m ≠ k.dp ∧ k.m ≠ k.ka ∧ k.m ≠ k.sa ∧ k.m ≠ k.wa
  qc : q ≠ k.cl
  qm : q ≠ k.m
  cm : k.cl ≠ k.m
section
variable {c : Cc} {G G' H H' : Hp} {q : Addr} {k : Sk} {d : Sd}
theorem rt_of (S : ST c G H q k d) : Rt c G H q k d := ⟨S.o, S.gq, S.h, S.s, S.c, S.gc, S.hh, S.lc, S.lh, S.mm, S.gm, S.q1, S.c1, S.m1, S.qc, S.qm, S.cm⟩
theorem Rt.st (R : Rt c G H q k d) (D : DK c.D G H k.dp k.ka k.sa k.wa k.n ⟨k.f, [], true, none⟩) : ST c G H q k d := ⟨D, R.o, R.gq, R.h, R.s, R.c, R.gc, R.hh, R.lc, R.lh, R.mm, R.gm, R.q1, R.c1, R.m1, R.qc, R.qm, R.cm⟩
theorem Rt.ex (R : Rt c G H q k d) (e : Ex H H') : Rt c G H' q k d := ⟨let ⟨x, h⟩ := R.o; ⟨x, e _ _ h⟩, R.gq, R.h, R.s, e _ _ R.c, R.gc, R.hh, R.lc, R.lh, let ⟨kvs, a, b⟩ := R.mm; ⟨kvs, e _ _ a, b⟩, R.gm, R.q1, R.c1, R.m1, R.qc, R.qm, R.cm⟩
/-- a write: only the disk's own lists change -/
theorem Rt.wr (R : Rt c G H q k d) (W : St G H G' H') (fr : ∀ a o, H a = some o → a ≠ k.dp → a ≠ k.sa → a ≠ k.wa → H' a = some o) : Rt c G' H' q k d := by
  obtain ⟨dx, ho⟩ := R.o
  obtain ⟨kvs, hm, M⟩ := R.mm
  have al : ∀ {a : Addr} {o : HO}, H a = some o → H a ≠ none := fun h z => by rw [h] at z; cases z
  exact ⟨⟨dx, fr _ _ ho R.q1.1 R.q1.2.2.1 R.q1.2.2.2⟩, W.n _ (al ho) R.gq, let ⟨x, h⟩ := R.h; ⟨x, W.g _ _ h⟩, let ⟨x, h⟩ := R.s; ⟨x, W.g _ _ h⟩, fr _ _ R.c R.c1.1 R.c1.2.2.1 R.c1.2.2.2, W.n _ (al R.c) R.gc, W.g _ _ R.hh, R.lc, R.lh, ⟨kvs, fr _ _ hm R.m1.1 R.m1.2.2.1 R.m1.2.2.2, M.ex W.g⟩, W.n _ (al hm) R.gm, R.q1, R.c1, R.m1, R.qc, R.qm, R.cm⟩
/-- a flush: the disk has new lists -/
theorem Rt.fl (R : Rt c G H q k d) (W : St G H G' H') (fr : ∀ a o, H a = some o → a ≠ k.dp → a ≠ k.ka → H' a = some o) {sa wa : Addr} {f : Nat → List Int} (D : DK c.D G' H' k.dp k.ka sa wa k.n ⟨f, [], true, none⟩) : Rt c G' H' q { k with sa := sa, wa := wa, f := f } d := by
  obtain ⟨dx, ho⟩ := R.o
  obtain ⟨kvs, hm, M⟩ := R.mm
  have al : ∀ {a : Addr} {o : HO}, H a = some o → H a ≠ none := fun h z => by rw [h] at z; cases z
  have ho' := fr _ _ ho R.q1.1 R.q1.2.1
  have hc' := fr _ _ R.c R.c1.1 R.c1.2.1
  have hm' := fr _ _ hm R.m1.1 R.m1.2.1
  obtain ⟨ss, s1, _⟩ := D.s
  obtain ⟨ws, w1, _⟩ := D.w
  have n0 := D.n0
  have hpos : 0 < d.cs.length := by rw [R.lc]; omega
  have ne : ∀ {x a : Addr} {o p : HO}, H' x = some o → H' a = some p → o ≠ p → x ≠ a := fun h g n z => by
    rw [z, g] at h
    exact n (Option.some.inj h).symm
  exact ⟨⟨dx, ho'⟩, W.n _ (al ho) R.gq, let ⟨x, h⟩ := R.h; ⟨x, W.g _ _ h⟩, let ⟨x, h⟩ := R.s; ⟨x, W.g _ _ h⟩, hc', W.n _ (al R.c) R.gc, W.g _ _ R.hh, R.lc, R.lh, ⟨kvs, hm', M.ex W.g⟩, W.n _ (al hm) R.gm, ⟨R.q1.1, R.q1.2.1, ne ho' s1 (by intro z; cases z), ne ho' w1 (by intro z; cases z)⟩, ⟨R.c1.1, R.c1.2.1, ne hc' s1 (ir_ne hpos), ne hc' w1 (ir_ne hpos)⟩, ⟨R.m1.1, R.m1.2.1, ne hm' s1 (by intro z; cases z), ne hm' w1 (by intro z; cases z)⟩, R.qc, R.qm, R.cm⟩
end

end K24

set_option Elab.async false
set_option linter.all false
set_option maxRecDepth 100000
set_option maxHeartbeats 4000000
namespace K24
open PySem PySem.Spec PyProof.Rows L2 Evl LK LT LG LS LQ LX LO LN LP LH LV LZ LW StX LD
open ND (DK Dk St)
open NS (fr fr1 cv hv headV used In flds)
open NT (Cc Sk Sd ST SP Fm cont newB fre setM dropD TxT TxH tno memL Txt hfl sfl)
/-! ### commit -/
/-- what is no instance stays -/
def Gx (G G' : Hp) : Prop := ∀ a o, G a = some o → (∀ C dx fs, o ≠ .ins C dx fs) → G' a = some o
theorem Gx.ex {G G' : Hp} (e : Ex G G') : Gx G G' := fun a o h _ => e _ _ h
theorem Gx.trans {G G' G2 : Hp} (e : Gx G G') (f : Gx G' G2) : Gx G G2 := fun a o h n => f _ _ (e _ _ h n) n
theorem Gx.t {G G' : Hp} (x : Gx G G') {a : Addr} {us : List V} (h : G a = some (.tup us)) : G' a = some (.tup us) := x _ _ h fun _ _ _ z => by cases z
theorem Gx.l {G G' : Hp} (x : Gx G G') {a : Addr} {us : List V} (h : G a = some (.lst us)) : G' a = some (.lst us) := x _ _ h fun _ _ _ z => by cases z
def Own (q : Addr) (k : Sk) (a : Addr) : Prop := (a ≠ q ∧ a ≠ k.cl ∧ a ≠ k.m) ∧ (a ≠ k.dp ∧ a ≠ k.ka ∧ a ≠ k.sa ∧ a ≠ k.wa)
section
variable {c : Cc} {G H : Hp} {q a : Addr} {k : Sk} {d : Sd}
theorem own_new (S : ST c G H q k d) (h : H a = none) : Own q k a := (Aw.new S h).2
theorem own_tup (S : ST c G H q k d) {us : List V} (h : H a = some (.tup us)) : Own q k a := by
  obtain ⟨dx, h1⟩ := S.o
  obtain ⟨kvs, h2, _⟩ := S.mm
  have h3 := S.c
  obtain ⟨dy, h4⟩ := S.dk.o
  obtain ⟨ks, h5, _⟩ := S.dk.k
  obtain ⟨ss, h6, _⟩ := S.dk.s
  obtain ⟨ws, h7, _⟩ := S.dk.w
  refine ⟨⟨fun z => ?_, fun z => ?_, fun z => ?_⟩, fun z => ?_, fun z => ?_, fun z => ?_, fun z => ?_⟩
  · rw [z, h1] at h; cases h
  · rw [z, h3] at h; cases h
  · rw [z, h2] at h; cases h
  · rw [z, h4] at h; cases h
  · rw [z, h5] at h; cases h
  · rw [z, h6] at h; cases h
  · rw [z, h7] at h; cases h
open Classical in
theorem st_join (S : ST c G H q k d) (X : Addr → Prop) : ∃ G', Ex G G' ∧ ST c G' H q k d ∧ (∀ a o, H a = some o → Own q k a → ¬ X a → G' a = some o) ∧ ∀ a, X a → G a = none → G' a = none := by
  have ge := S.dk.g
  let G' : Hp := fun a => if Own q k a ∧ ¬ X a then H a else G a
  have i1 : ∀ a, Own q k a ∧ ¬ X a → G' a = H a := fun a h => if_pos h
  have i2 : ∀ a, ¬ (Own q k a ∧ ¬ X a) → G' a = G a := fun a h => if_neg h
  have gg : Ex G G' := fun a o h => by
    by_cases e : Own q k a ∧ ¬ X a
    · rw [i1 a e]; exact ge _ _ h
    · rw [i2 a e]; exact h
  have gh : Ex G' H := fun a o h => by
    by_cases e : Own q k a ∧ ¬ X a
    · rw [i1 a e] at h; exact h
    · rw [i2 a e] at h; exact ge _ _ h
  have no : ∀ {a}, ¬ Own q k a → G a = none → G' a = none := fun h g => by rw [i2 _ fun z => h z.1]; exact g
  have D := S.dk
  refine ⟨G', gg, ⟨⟨gh, no (fun z => z.2.1 rfl) D.gp, no (fun z => z.2.2.1 rfl) D.gk, no (fun z => z.2.2.2.1 rfl) D.gs, no (fun z => z.2.2.2.2 rfl) D.gw, D.nks, D.nkw, D.nsw, D.o, D.k.ex gg (Ex.refl _), D.s.ex gg (Ex.refl _), D.w.ex gg (Ex.refl _), D.n0, D.n1, D.wl, D.ok, D.kz⟩, S.o, no (fun z => z.1.1 rfl) S.gq, let ⟨x, h⟩ := S.h; ⟨x, gg _ _ h⟩, let ⟨x, h⟩ := S.s; ⟨x, gg _ _ h⟩, S.c, no (fun z => z.1.2.1 rfl) S.gc, gg _ _ S.hh, S.lc, S.lh, let ⟨kvs, h1, h2⟩ := S.mm; ⟨kvs, h1, h2.ex gg⟩, no (fun z => z.1.2.2 rfl) S.gm, S.q1, S.c1, S.m1, S.qc, S.qm, S.cm⟩, fun a o h o1 x => by rw [i1 a ⟨o1, x⟩]; exact h, fun a x g => by rw [i2 a fun z => z.2 x]; exact g⟩
end

def stS (x : (Nat → List Int) × List (Nat × List Int)) : Stp → (Nat → List Int) × List (Nat × List Int)
  | .wr s ns => (x.1, x.2 ++ [(s, ns)])
  | .fl => (ND.due x.1 x.2, [])
def rnS (f : Nat → List Int) (ss : List Stp) : (Nat → List Int) × List (Nat × List Int) := ss.foldl stS (f, [])
theorem rnS_snoc (f : Nat → List Int) (ss : List Stp) (s : Stp) : rnS f (ss ++ [s]) = stS (rnS f ss) s := by
  unfold rnS
  rw [List.foldl_append]
  rfl
def StK (n : Nat) : Stp → Prop
  | .wr s ns => s < 4 * n ∧ ns.length = 8 ∧ ∀ z ∈ ns, 0 ≤ z
  | .fl => True
def stD : Stp → PyData
  | .wr s ns => .tuple [.str "write", .int (s : Int), .list (ns.map PyData.int)]
  | .fl => .tuple [.str "flush"]
theorem sh_str {s : Str} (h : PyData.strOk s = true) (n : Nat) : Sh n (.str s) := ⟨by rw [PyData.canLay0]; exact h, by simp [PyData.depth]⟩
theorem sh_stD : ∀ s : Stp, Sh 2 (stD s)
  | .fl => (sh_tup (n := 0) fun d hd => by
      rw [List.mem_singleton.mp hd]
      exact sh_str (by decide +kernel) 0).up (by decide)
  | .wr s ns => sh_tup fun d hd => by
      simp only [List.mem_cons, List.not_mem_nil, or_false] at hd
      rcases hd with rfl | rfl | rfl
      · exact sh_str (by decide +kernel) 1
      · exact sh_int _ 1
      · exact sh_lst (sh_ints _)
def spCom (c : Cc) (Pm Pw : Addr) : Sp := fun vs H Q _ => ∃ G q k d a b a2 b2, vs = [.ref q] ∧ ST c G H q k d ∧ H k.tb = some (.tup ([a, b].map V.int)) ∧ H k.th = some (.tup ([a2, b2].map V.int)) ∧ Tab H Pm ∧ Tab G Pw ∧ 0 ≤ k.g ∧ (∀ x ∈ memL k d, 5 ≤ x ∧ (cont k d x).length = 32) ∧ (memL k d).length < 64 ∧ (∀ s ∈ csS k d a b a2 b2, StK k.n s) ∧ (csS k d a b a2 b2).length ≤ 290 ∧ (rnS k.f (csS k d a b a2 b2)).2 = [] ∧
  (csS k d a b a2 b2 = [] → ∀ H1, Ex H H1 → Q (.bl false) H1) ∧
  (csS k d a b a2 b2 ≠ [] → ∀ (G' H' : Hp) (hp hl m sa wa : Addr), Gx G G' → ST c G' H' q { k with f := (rnS k.f (csS k d a b a2 b2)).1, sa := sa, wa := wa, hp := hp, g := k.g + 1, th := k.tb, hl := hl, m := m, hs := NS.pos d.cs } ⟨d.r, d.cs, fun _ => none⟩ → Q (.bl true) H')
section
variable {σ : L2.St} {H : Hp} {ta : TE} {tA : TA} {tz : TS} {D : Ends} {sp sp2 : Sp} {E E2 : XK} {C p dx : Addr} {m : Str} {fs : List (Str × V)} {vs : List V}
theorem q_mC (ha : Ev ta σ H (.ref p)) (hi : H p = some (.ins C dx fs)) (hl : fs.lookup m = none) (h : EvA tA σ H vs) (k : ∀ H1, Ex H H1 → sp2 vs H1 (fun v H2 => sp [.ref p, v] H2 (fun _ H3 => tz D σ H3) E) E2) : tSeq (tDrop (tMeth C m sp [] E ta (tCons (tCall sp2 [] E2 tA) tNil))) tz D σ H :=
  ha H (Ex.refl _) _ fun H2 e2 => ⟨p, dx, fs, rfl, e2 _ _ hi, hl, h H2 e2 _ fun H3 e3 => by
    rw [List.append_nil]
    exact k H3 (e2.trans e3)⟩
end
theorem dp_of' {K : PySem.W.Frag} {H : Hp} : ∀ {xs : List V} {ss : List Stp}, xs.length = ss.length → (∀ (i : Nat) v s, xs[i]? = some v → ss[i]? = some s → Dp K H v (stD s)) → DpAll K H xs (ss.map stD)
  | [], [], _, _ => .nil
  | v :: xs, s :: ss, hl, h => .cons (h 0 v s rfl rfl) (dp_of' (Nat.succ.inj hl) fun i => h (i + 1))
theorem ev_opL2' {r : V → V → Hp → VK → Prop} {σ : L2.St} {H : Hp} {t1 t2 : TE} {v z : V} {ws : List V} (h1 : Ev t1 σ H v) (h2 : EvL t2 σ H ws) (hr : ∀ p B, Ex H B → B p = some (.lst ws) → RV r v (.ref p) B z) : Ev (tOp r t1 t2) σ H z := fun H1 e Q q => h1 H1 e _ fun H2 e2 => h2 H2 (e.trans e2) _ fun p H3 hp e3 hx => hr p H3 ((e.trans e2).trans e3) hx H3 (Ex.refl _) Q fun H4 e4 => q H4 ((e2.trans e3).trans e4)
section
variable {P : Program} {w : World} {K : PySem.W.Frag} {mg : Str → Option Value} {base : Heap} {c : Cc} {CN CO Pm Pw : Addr}
theorem ok_com {f f1 f2 f3 f4 f5 : Addr} {fd fd1 fd2 fd3 fd4 fd5 : FuncData} (F : Fun K "commit" "commit" sCom f fd)
    (FCst : Fun K "commit_steps" "commit_steps" sCst f1 fd1) (GCst : FnOk P w K mg base CX0 7 f1 fd1 ["store"] (spCst c Pm)) (bCst : Binds K fd1 ["store"] []) (gCst : mg "commit_steps" = some (.ref f1))
    (FNh : Fun K "next_head" "next_head" sNh f2 fd2) (GNh : FnOk P w K mg base CX0 3 f2 fd2 ["store"] (spNh c)) (bNh : Binds K fd2 ["store"] []) (gNh : mg "next_head" = some (.ref f2))
    (Gwrite : FnOk P w K mg base (L2.CX P w) 3 f3 fd3 ["self", "sector", "words"] (ND.spWrite c.D CN CO Pw)) (bwrite : Binds K fd3 ["self", "sector", "words"] []) (mwrite : Meth K c.D "write" f3)
    (Gflush : FnOk P w K mg base (L2.CX P w) 2 f4 fd4 ["self"] (ND.spFlush c.D CO)) (bflush : Binds K fd4 ["self"] []) (mflush : Meth K c.D "flush" f4)
    (Guse_head : FnOk P w K mg base CX0 2 f5 fd5 ["self", "head"] (NT.spUh c)) (buse_head : Binds K fd5 ["self", "head"] []) (muse_head : Meth K c.T "use_head" f5)
    (T : Txt mg) (TT : TxT mg K c.T) (TH : TxH mg K c.H) (TD : ND.Txt mg K c.D) (tWR : ∃ t, mg "WRITE" = some (.str "write" t)) : FnOk P w K mg base CX0 8 f fd ["store"] (spCom c Pm Pw) := by
  obtain ⟨_, gWRITE⟩ := tWR
  refine F.ok (k := 7) scCom (fun vs H Q E h => ?_) (fun cdv A outer s H vs Q E hr h => ?_)
  · obtain ⟨G, q, k, d, a, b, a2, b2, rfl, _⟩ := h
    rfl
  · obtain ⟨G, q, k, d, a, b, a2, b2, rfl, S, htb, hth, hT, hTw, g0, hm, h64, hK, hlen, hend, q0, q1⟩ := h
    refine ⟨_, (pss_cons (ps_set (i := 1) scCom.nd rfl (Or.inl rfl) (pe_call GCst (hr.mono (by decide)) (by rfl) gCst FCst.kp bCst .nil pass0 (pa_cons (pv 0) pa_nil)))
      (pss_cons (ps_for PassesOwn.never rfl (pi_list (pv 1)) (pg_name (i := 2) scCom.nd rfl (Or.inl rfl)) (pss_one (ps_if (pt_cmpR op_eq (pe_ix ix_tup (pv 2) pe_int (fun _ _ => rfl)) (pe_glob (v := .str "write") rfl gWRITE ⟨_, rfl⟩) (nomark _)) (pss_one (ps_expr (pe_meth (pe_fld (pv 0) rfl) TD.cl mwrite Gwrite (hr.mono (by decide)) bwrite .nil passL (pa_cons (pe_ix ix_tup (pv 2) pe_int (fun _ _ => rfl)) (pa_cons (pe_ix ix_tup (pv 2) pe_int (fun _ _ => rfl)) pa_nil))))) (pss_one (ps_expr (pe_meth0 (pe_fld (pv 0) rfl) TD.cl mflush Gflush (hr.mono (by decide)) bflush .nil passL))))))
      (pss_cons (ps_if (pt_cmpR (op_eqD hr.units) (pv 1) (pe_lst pa_nil) (nomark _)) (pss_one (ps_ret pe_bl)) pss_nil)
      (pss_cons (ps_expr (pe_meth (pv 0) TT.cl muse_head Guse_head (hr.mono (by decide)) buse_head .nil pass0 (pa_cons (pe_call GNh (hr.mono (by decide)) (by rfl) gNh FNh.kp bNh .nil pass0 (pa_cons (pv 0) pa_nil)) pa_nil)))
      (pss_one (ps_ret pe_bl)))))), ?_⟩
    have dno : ∀ {n : Nat} {ka sa wa : Addr} {pw : Bool} {bf : Option Nat} {m : Str}, m = "flush" ∨ m = "write" → (ND.dfl n ka sa wa pw bf).lookup m = Option.none := fun h => by
      rcases h with rfl | rfl <;> exact ND.d_no ⟨by decide +kernel, by decide +kernel, by decide +kernel, by decide +kernel, by decide +kernel, by decide +kernel⟩
    refine q_run (vs := [.ref q]) (ea_cons (ev_var rfl) ea_nil) fun B1 b1 => ⟨G, q, k, d, a, b, a2, b2, rfl, S.ex b1, b1 _ _ htb, b1 _ _ hth, hT.mono b1, g0, hm, h64, fun ls B2 xs hls b2' hlx hSL => ?_⟩
    generalize csS k d a b a2 b2 = ss at hK hlen hend q0 q1 hSL
    have S2 := S.ex (b1.trans b2')
    obtain ⟨G1, gg1, S3, in1, _⟩ := st_join S2 (fun _ => False)
    have glx := in1 _ _ hlx (own_new (S.ex b1) hls) (fun z => z)
    have gSL : SL (fun l => B1 l = none) G1 xs ss := hSL.go (fun _ h => h) (fun x us h => in1 _ _ h (own_tup S2 h) (fun z => z)) (fun x us n h => in1 _ _ h (own_new (S.ex b1) n) (fun z => z))
    have n0 := S.dk.n0
    have hxn := gSL.n
    refine q_forL (a := ls) (ev_var rfl) (sq_of (S3.dk.g _ _ glx)) (fun i σ' B => ∃ G2 sa wa y2, σ' = [some (.ref q), some (.ref ls), y2] ∧ Ex G1 G2 ∧ Rt c G2 B q { k with f := (rnS k.f (ss.take i)).1, sa := sa, wa := wa } d ∧ DK c.D G2 B k.dp k.ka sa wa k.n ⟨(rnS k.f (ss.take i)).1, (rnS k.f (ss.take i)).2, true, none⟩ ∧ (rnS k.f (ss.take i)).2.length ≤ i ∧ (i = 0 → Ex B2 B)) (fun B e => ⟨G1, k.sa, k.wa, none, rfl, Ex.refl _, (rt_of S3).ex e, S3.dk.ex e, Nat.le_refl _, fun _ => e⟩) (fun i σ' B _ ⟨G2, sa, wa, y2, _, g, _, D, _⟩ => sq_of (D.g _ _ (g _ _ glx))) ?_ ?_
    · rintro i x σ' B hx ⟨G2, sa, wa, y2, rfl, gg, R, D, hwl, _⟩
      have hi : i < ss.length := by rw [← hxn]; exact (List.getElem?_eq_some_iff.mp hx).1
      obtain ⟨s, hs⟩ : ∃ s, ss[i]? = some s := ⟨_, List.getElem?_eq_getElem hi⟩
      have hsk := hK s (List.mem_of_getElem? hs)
      have htk : ss.take (i + 1) = ss.take i ++ [s] := by rw [List.take_add_one, hs]; rfl
      obtain ⟨t, ht1, ht2⟩ := gSL.a i s hs
      rw [ht1] at hx
      cases hx
      obtain ⟨dx, ho⟩ := R.o
      obtain ⟨dd, hd⟩ := D.o
      have gB := gg.trans D.g
      cases s with
      | wr sn ns =>
        obtain ⟨l, _, h1, h2⟩ := ht2
        obtain ⟨k1, k2, k3⟩ := hsk
        refine s_if (b := true) (et_is (et_test (ev_op (ev_op (ev_var rfl) ev_c (rv_ixT (st_of (gB _ _ h1)) (atI_nat (j := 0) rfl))) ev_c (rv_eq rfl))) (by simp)) (fun _ B3 b3 => ?_) (fun h => by cases h)
        have h1' := b3 _ _ (gB _ _ h1)
        refine s_m (vs := [.int (sn : Int), .ref l]) (ev_fld (ev_var rfl) (b3 _ _ ho) TT.cl TT.nd NT.t_d) (b3 _ _ hd) (dno (.inr rfl)) (ea_cons (ev_op (ev_var rfl) ev_c (rv_ixT (st_of h1') (atI_nat (j := 1) rfl))) (ea_cons (ev_op (ev_var rfl) ev_c (rv_ixT (st_of h1') (atI_nat (j := 2) rfl))) ea_nil)) fun B4 b4 => ⟨G2, k.dp, k.ka, sa, wa, k.n, _, (sn : Int), l, ns.map V.int, rfl, D.ex (b3.trans b4), (b3.trans b4) _ _ (gB _ _ h2), ND.kd_ints _, (hTw.mono gg1).mono gg, by show (rnS k.f (ss.take i)).2.length < 300; omega, (fun z => by have := gB _ _ h2; rw [z, hd] at this; cases this), fun hno => absurd ⟨⟨by omega, by omega⟩, by rw [List.length_map]; exact k2, ND.ints_wd k3⟩ hno, fun _ s' ns' hs' hs4 hns h8' hnn' G3 B5 S5 fr5 D5 => ?_, fun hno _ => absurd ⟨rfl, fun z => by cases z⟩ hno⟩
        obtain rfl : sn = s' := by omega
        obtain rfl := ints_inj hns
        have b34 := b3.trans b4
        refine ⟨G3, sa, wa, _, rfl, gg.trans S5.g, ?_, ?_, ?_, fun h => absurd h (Nat.succ_ne_zero i)⟩
        · rw [htk, rnS_snoc]
          exact (R.ex b34).wr S5 fr5
        · rw [htk, rnS_snoc]
          exact D5
        · rw [htk, rnS_snoc]
          show ((rnS k.f (ss.take i)).2 ++ [(sn, ns)]).length ≤ i + 1
          rw [List.length_append]
          show (rnS k.f (ss.take i)).2.length + 1 ≤ i + 1
          omega
      | fl =>
        have h1 : G1 t = some (.tup [.str "flush"]) := ht2
        refine s_if (b := false) (et_is (et_test (ev_op (ev_op (ev_var rfl) ev_c (rv_ixT (st_of (gB _ _ h1)) (atI_nat (j := 0) rfl))) ev_c (rv_eq rfl))) (by decide)) (fun h => by cases h) (fun _ B3 b3 => ?_)
        refine s_m (vs := []) (ev_fld (ev_var rfl) (b3 _ _ ho) TT.cl TT.nd NT.t_d) (b3 _ _ hd) (dno (.inl rfl)) ea_nil fun B4 b4 => ⟨G2, k.dp, k.ka, sa, wa, k.n, _, rfl, D.ex (b3.trans b4), fun hon G3 B5 sa2 wa2 S5 fr5 D5 => ?_, fun hno => absurd ⟨rfl, fun z => by cases z⟩ hno⟩
        have hKd : ND.aftN (rnS k.f (ss.take i)).1 (rnS k.f (ss.take i)).2 (fun _ => 8) (rnS k.f (ss.take i)).2.length = ND.due (rnS k.f (ss.take i)).1 (rnS k.f (ss.take i)).2 := by
          rw [aft_due D.kz (fun w hw => (D.ok w hw).2) _ (Nat.le_refl _), List.take_length]
        replace D5 : DK c.D G3 B5 k.dp k.ka sa2 wa2 k.n ⟨ND.aftN (rnS k.f (ss.take i)).1 (rnS k.f (ss.take i)).2 (fun _ => 8) (rnS k.f (ss.take i)).2.length, [], true, none⟩ := D5
        rw [hKd] at D5
        refine ⟨G3, sa2, wa2, _, rfl, gg.trans S5.g, ?_, ?_, ?_, fun h => absurd h (Nat.succ_ne_zero i)⟩
        · rw [htk, rnS_snoc]
          exact (R.ex (b3.trans b4)).fl S5 fr5 D5
        · rw [htk, rnS_snoc]
          exact D5
        · rw [htk, rnS_snoc]
          exact Nat.zero_le _
    · rintro σ' B ⟨G2, sa, wa, y2, rfl, gg, R, D, _, hz⟩
      rw [hxn, List.take_length] at R D
      rw [hend] at D
      have S4 := R.st D
      have gB := gg.trans D.g
      have dpS : ∀ {B' : Hp}, Ex B B' → Dp K B' (.ref ls) (.list (ss.map stD)) := fun {B'} e => .lst (sq_of ((gB.trans e) _ _ glx)) (dp_of' hxn fun i v s hv hs => by
        obtain ⟨t, h1, h2⟩ := gSL.a i s hs
        rw [h1] at hv
        cases hv
        cases s with
        | fl => exact .tup (st_of ((gB.trans e) _ _ h2)) (.cons (.str _) .nil)
        | wr sn ns =>
          obtain ⟨l, _, h3, h4⟩ := h2
          exact .tup (st_of ((gB.trans e) _ _ h3)) (.cons (.str _) (.cons (.int _) (.cons (.lst (sq_of ((gB.trans e) _ _ h4)) (dp_ints _)) .nil))))
      have hev : PyData.eqv (.list (ss.map stD)) (.list []) = decide (ss = []) := by
        cases ss with
        | nil => exact (sh_lst (n := 0) (ds := []) fun d hd => by cases hd).refl
        | cons s r => simp [PyData.eqv, PyData.eqvAll]
      refine q_when (b := decide (ss = [])) (et_is (et_test (ev_opL2' (ev_var rfl) (el_lst ea_nil (by decide)) fun p B' e hp => rv_eqDD (dpS e) (.lst (sq_of hp) .nil) (sh_lst (n := 2) fun d hd => by
        obtain ⟨s, _, rfl⟩ := List.mem_map.mp hd
        exact sh_stD s) (sh_lst (n := 2) fun d hd => by cases hd) (by decide))) hev) (fun hb B3 b3 => ?_) (fun hb B3 b3 => ?_)
      · have hb := of_decide_eq_true hb
        exact s_ret ev_c fun B4 b4 => q0 hb B4 ((b1.trans b2').trans ((hz (by rw [hxn, hb]; rfl)).trans (b3.trans b4)))
      · have hb := of_decide_eq_false hb
        have S5 := S4.ex b3
        obtain ⟨dx, ho⟩ := S5.o
        refine q_mC (ev_var rfl) ho (NT.t_no ⟨by decide +kernel, by decide +kernel, by decide +kernel, by decide +kernel, by decide +kernel, by decide +kernel⟩) (ea_cons (ev_var rfl) ea_nil) fun B4 b4 => ⟨G2, q, _, d, rfl, S5.ex b4, fun h dh B5 hh0 b5 hhx => ?_⟩
        have S6 := S5.ex (b4.trans b5)
        obtain ⟨G3, gg3, S7, in3, _⟩ := st_join S6 (fun _ => False)
        exact ⟨G3, q, _, d, h, k.tb, dh, k.g + 1, rfl, S7, in3 _ _ hhx (own_new (S5.ex b4) hh0) (fun z => z), fun G4 B6 hl m S8 rs n1 n2 => s_ret ev_c fun B7 b7 => q1 hb G4 B7 h hl m sa wa (fun x o hx hn => rs.g x o (gg3 _ _ (gg _ _ (gg1 _ _ hx))) fun z => by
          obtain ⟨ds, h2⟩ := S7.s
          have h3 := gg3 _ _ (gg _ _ (gg1 _ _ hx))
          rw [z, h2] at h3
          exact hn _ _ _ (Option.some.inj h3).symm) (S8.ex b7)⟩
end

end K24

set_option Elab.async false
set_option linter.all false
set_option maxRecDepth 100000
set_option maxHeartbeats 4000000
namespace K24
open PySem PySem.Spec PyProof.Rows L2 Evl LK LT LG LS LQ LX LO LN LP LH LV LZ LW StX LD
open ND (DK Dk St)
open NS (fr fr1 cv hv headV used In flds)
open NT (Cc Sk Sd ST SP Fm cont newB fre setM dropD TxT TxH tno memL Txt hfl sfl)
/-! ### what the steps ought to be -/
def duS (cf : Nat → List Int) (ls : List Nat) : List Stp := ls.flatMap fun x => bsS x (cf x) 4
theorem duS_snoc (cf : Nat → List Int) (ls : List Nat) (x : Nat) : duS cf (ls ++ [x]) = duS cf ls ++ bsS x (cf x) 4 := by
  unfold duS
  rw [List.flatMap_append, List.flatMap_cons, List.flatMap_nil, List.append_nil]
theorem duS_len (cf : Nat → List Int) : ∀ ls : List Nat, (duS cf ls).length = 4 * ls.length
  | [] => rfl
  | x :: r => by
    have := duS_len cf r
    unfold duS at this ⊢
    rw [List.flatMap_cons, List.length_append, this, List.length_cons]
    unfold bsS
    rw [List.length_map, List.length_range]
    omega
def ldS (g mk a b : Int) (cf : Nat → List Int) (ls : List Nat) : List Stp := if PyData.eqv (.tuple ([a, b].map PyData.int)) (.tuple ([5, 1].map PyData.int)) = true ∧ mk < g then [] else duS cf ls ++ tlS g a b 96
structure CtR (B : Hp) (xs : List V) (ls : List Nat) (cf : Nat → List Int) : Prop where
  n : xs.length = ls.length
  a : ∀ (i x : Nat), ls[i]? = some x → ∃ t l, xs[i]? = some (.ref t) ∧ B t = some (.tup [.int (x : Int), .ref l]) ∧ B l = some (.lst ((cf x).map V.int)) ∧ (cf x).length = 32
def spLdu (c : Cc) : Sp := fun vs H Q _ => ∃ (G : Hp) (q ct : Addr) (k : Sk) (d : Sd) (a b g mk : Int) (xs : List V) (ls : List Nat) (cf : Nat → List Int), vs = [.ref q, .ref ct, .int g, .int mk] ∧ ST c G H q k d ∧ H k.tb = some (.tup ([a, b].map V.int)) ∧ H ct = some (.lst xs) ∧ CtR H xs ls cf ∧ ls.length ≤ 64 ∧ 0 ≤ g ∧
  ∀ p H1 ys, H p = none → Ex H H1 → H1 p = some (.lst ys) → SL (fun l => H l = none) H1 ys (ldS g mk a b cf ls) → Q (.ref p) H1
section
variable {K : PySem.W.Frag} {σ : L2.St} {H : Hp} {tl te : TE} {D : Ends} {tz : TS} {l : Addr} {xs us : List V}
theorem q_appU (hl : H l = some (.lst xs)) (ha : Ev tl σ H (.ref l)) (h : EvU te σ H us) (hz : xs.length < 100000) (k : ∀ p H1, Ex H H1 → H1 p = some (.tup us) → tz D σ (upd H1 l (.lst (xs ++ [.ref p])))) : tSeq (tDrop (tBM K "list" rAppend tl (tCons te tNil))) tz D σ H :=
  s_appR (D := { D with nx := tz D }) (Rv := fun v B => ∃ p, v = .ref p ∧ B p = some (.tup us)) hl ha (fun H1 e1 Q1 q1 => h H1 e1 _ fun p H2 hp e2 hx => q1 _ _ e2 ⟨p, rfl, hx⟩) hz fun v H1 e ⟨p, hv, hx⟩ => by
    subst hv
    exact k p H1 e hx
theorem ev_opU2' {r : V → V → Hp → VK → Prop} {t1 t2 : TE} {v z : V} (h1 : Ev t1 σ H v) (h2 : EvU t2 σ H us) (hr : ∀ p B, Ex H B → B p = some (.tup us) → RV r v (.ref p) B z) : Ev (tOp r t1 t2) σ H z := fun H1 e Q q => h1 H1 e _ fun H2 e2 => h2 H2 (e.trans e2) _ fun p H3 hp e3 hx => hr p H3 ((e.trans e2).trans e3) hx H3 (Ex.refl _) Q fun H4 e4 => q H4 ((e2.trans e3).trans e4)
end
section
variable {P : Program} {w : World} {K : PySem.W.Frag} {mg : Str → Option Value} {base : Heap} {c : Cc}
theorem ok_ldu {f : Addr} {fd : FuncData} (F : Fun K "_law_due" "_law_due" sLdu f fd) (T : Txt mg) (TT : TxT mg K c.T) : FnOk P w K mg base CX0 1 f fd ["store", "contents", "generation", "mark"] (spLdu c) := by
  refine F.ok scLdu (fun vs H Q E h => ?_) (fun cdv A outer s H vs Q E hr h => ?_)
  · obtain ⟨G, q, ct, k, d, a, b, g, mk, xs, ls, cf, rfl, _⟩ := h
    rfl
  · obtain ⟨G, q, ct, k, d, a, b, g, mk, xs, ls, cf, rfl, S, htb, hct, hC, h64, g0, qq⟩ := h
    refine ⟨_, (pss_cons (ps_if (PW.pt (pw_and (pt_cmpR (op_eqD hr.units) (pe_fld (pv 0) rfl) (pe_tup (pa_cons pe_int (pa_cons pe_int pa_nil))) (nomark _)) (pw_and1 (pt_cmpR op_lt (pv 3) (pv 2) (nomark _))))) (pss_one (ps_ret (pe_lst pa_nil))) pss_nil)
      (pss_cons (ps_set (i := 4) scLdu.nd rfl (Or.inl rfl) (pe_lst pa_nil))
      (pss_cons (ps_for PassesOwn.never rfl (pi_list (pv 1)) (pg_name (i := 5) scLdu.nd rfl (Or.inl rfl)) (pss_one (ps_for PassesOwn.never rfl (pi_range1 (by rfl) T.range (pa_cons pe_int pa_nil)) (pg_name (i := 6) scLdu.nd rfl (Or.inl rfl)) (pss_one (ps_expr (pe_bm PySem.F.plainAttrs_list PySem.F.slot_list_append PySem.F.type_list_append mt_append (pv 4) (pa_cons (pe_tup (pa_cons pe_str (pa_cons (pe_op op_add (pe_op op_mul pe_int (pe_ix ix_tup (pv 5) pe_int (fun _ _ => rfl))) (pv 6)) (pa_cons (pe_slice sl_list (pe_ix ix_tup (pv 5) pe_int (fun _ _ => rfl)) (po_some (pe_op op_mul pe_int (pv 6))) (po_some (pe_op op_add (pe_op op_mul pe_int (pv 6)) pe_int))) pa_nil)))) pa_nil)))))))
      (pss_cons (ps_expr (pe_bm PySem.F.plainAttrs_list PySem.F.slot_list_append PySem.F.type_list_append mt_append (pv 4) (pa_cons (pe_tup (pa_cons pe_str pa_nil)) pa_nil)))
      (pss_cons (ps_set (i := 7) scLdu.nd rfl (Or.inl rfl) (pe_lst (pa_cons (pe_op op_add (pv 2) pe_int) (pa_cons (pe_ix ix_tup (pe_fld (pv 0) rfl) pe_int (fun _ _ => rfl)) (pa_cons (pe_ix ix_tup (pe_fld (pv 0) rfl) pe_int (fun _ _ => rfl)) (pa_cons pe_int (pa_cons pe_int (pa_cons pe_int (pa_cons pe_int (pa_cons (pe_op op_add (pv 2) pe_int) pa_nil))))))))))
      (pss_cons (ps_expr (pe_bm PySem.F.plainAttrs_list PySem.F.slot_list_append PySem.F.type_list_append mt_append (pv 4) (pa_cons (pe_tup (pa_cons pe_str (pa_cons (pe_op op_mod (pe_callTy call_int1 (by rfl) T.int (by decide +kernel) (pa_cons (pe_op op_add (pv 2) pe_int) pa_nil)) pe_int) (pa_cons (pv 7) pa_nil)))) pa_nil)))
      (pss_cons (ps_expr (pe_bm PySem.F.plainAttrs_list PySem.F.slot_list_append PySem.F.type_list_append mt_append (pv 4) (pa_cons (pe_tup (pa_cons pe_str pa_nil)) pa_nil)))
      (pss_one (ps_ret (pv 4)))))))))), ?_⟩
    obtain ⟨dx, ho⟩ := S.o
    refine q_when (b := PyData.eqv (.tuple ([a, b].map PyData.int)) (.tuple ([5, 1].map PyData.int)) && decide (mk < g)) (et_and (et_test (ev_opU2' (us := [5, 1].map V.int) (ev_fld (ev_var rfl) ho TT.cl TT.nt NT.t_t) (eu_tup (ea_cons ev_c (ea_cons ev_c ea_nil)) (by simp)) (fun p B e hp => rv_eqDD (.tup (st_of (e _ _ htb)) (dp_ints _)) (.tup (st_of hp) (dp_ints _)) (sh_tup (sh_ints _)) (sh_tup (sh_ints _)) (by decide)))) (fun _ => et_test (ev_op (ev_var rfl) (ev_var rfl) rv_I0))) (fun hb B2 c2 => ?_) (fun hb B2 c2 => ?_)
    · rw [Bool.and_eq_true, decide_eq_true_iff] at hb
      exact s_retL (el_lst ea_nil (by decide)) fun p B3 hp c3 hx => qq p B3 [] (fresh_back c2 hp) (c2.trans c3) hx (by unfold ldS; rw [if_pos hb]; exact SL.nil)
    · have hne : ¬ (PyData.eqv (.tuple ([a, b].map PyData.int)) (.tuple ([5, 1].map PyData.int)) = true ∧ mk < g) := fun z => by
        rw [z.1, decide_eq_true z.2] at hb
        cases hb
      refine q_asgL (el_lst ea_nil (by decide)) fun r B3 hr0 c3 hrx => ?_
      have c13 := c2.trans c3
      have hrn : H r = none := fresh_back c2 hr0
      refine q_forL (a := ct) (ev_var rfl) (sq_of (c13 _ _ hct)) (fun i σ' B => ∃ ys y5 y6, σ' = [some (.ref q), some (.ref ct), some (.int g), some (.int mk), some (.ref r), y5, y6, none] ∧ Ex H B ∧ B r = some (.lst ys) ∧ SL (fun l => H l = none ∧ l ≠ r) B ys (duS cf (ls.take i))) (fun B e => ⟨[], none, none, rfl, c13.trans e, e _ _ hrx, SL.nil⟩) (fun i σ' B _ ⟨ys, y5, y6, _, e, _⟩ => sq_of (e _ _ hct)) ?_ ?_
      · rintro i x σ' B hx ⟨ys, y5, y6, rfl, eB, hr, hS⟩
        have hi : i < ls.length := by rw [← hC.n]; exact (List.getElem?_eq_some_iff.mp hx).1
        obtain ⟨n, hn⟩ : ∃ n, ls[i]? = some n := ⟨_, List.getElem?_eq_getElem hi⟩
        obtain ⟨t, l, h1, h2, h3, h32⟩ := hC.a i n hn
        rw [h1] at hx
        cases hx
        have htk : ls.take (i + 1) = ls.take i ++ [n] := by rw [List.take_add_one, hn]; rfl
        refine s_forR1 (n := 4) (ea_cons ev_c ea_nil) ⟨by decide, by decide⟩ (fun j σ2 B => ∃ ys y6, σ2 = [some (.ref q), some (.ref ct), some (.int g), some (.int mk), some (.ref r), some (.ref t), y6, none] ∧ Ex H B ∧ B r = some (.lst ys) ∧ SL (fun l => H l = none ∧ l ≠ r) B ys (duS cf (ls.take i) ++ bsS n (cf n) j)) (fun B4 e4 => ⟨ys, y6, rfl, eB.trans e4, e4 _ _ hr, by
          have := hS.mono e4
          rw [show duS cf (ls.take i) ++ bsS n (cf n) 0 = duS cf (ls.take i) from List.append_nil _]
          exact this⟩) ?_ ?_
        · rintro j σ2 B hj ⟨zs, y6', rfl, eB, hr, hS⟩
          have hj : j < 4 := by omega
          have ht' := eB _ _ h2
          refine s_appR (Rv := fun v B' => ∃ t l, v = .ref t ∧ H l = none ∧ l ≠ r ∧ B' t = some (.tup [.str "write", .int ((4 * n + j : Nat) : Int), .ref l]) ∧ B' l = some (.lst ((((cf n).drop (8 * j)).take 8).map V.int))) hr (ev_var rfl) (fun B5 b5 Q1 q1 => te_tup3L ev_c (ev_is (ev_op (ev_op ev_c (ev_op (ev_var rfl) ev_c (rv_ixT (st_of ht') (atI_nat (j := 0) rfl))) (rv_I (.inl ⟨by decide, by decide⟩))) (ev_var rfl) rv_I0) (by push_cast; rfl)) (el_is (ys := (((cf n).drop (8 * j)).take 8).map V.int) (el_sl (ev_op (ev_var rfl) ev_c (rv_ixT (st_of ht') (atI_nat (j := 1) rfl))) (eo_some (ev_op ev_c (ev_var rfl) (rv_I (.inl ⟨by decide, by decide⟩)))) (eo_some (ev_op (ev_op ev_c (ev_var rfl) (rv_I (.inl ⟨by decide, by decide⟩))) ev_c rv_I0)) (sq_of (eB _ _ h3))) (by
            rw [show (8 : Int) * (j : Int) + 8 = ((8 * j + 8 : Nat) : Int) by push_cast; rfl, show (8 : Int) * (j : Int) = ((8 * j : Nat) : Int) by push_cast; rfl, cut_mid _ (by omega) (by rw [List.length_map]; omega), show 8 * j + 8 - 8 * j = 8 by omega, List.map_take, List.map_drop])) b5 fun t l B6 ht hl b6 htx hlx => q1 _ _ b6 ⟨t, l, rfl, fresh_back (eB.trans b5) hl, (fun z => by rw [z, b5 _ _ hr] at hl; cases hl), htx, hlx⟩) (by
            rw [hS.n, List.length_append, duS_len, List.length_take]
            unfold bsS
            rw [List.length_map, List.length_range]
            omega) fun v B5 b5 ⟨t', l', hv, n1, n2, htx, hlx⟩ => ?_
          subst hv
          have hS5 := (hS.mono b5).app (SL.one (N := fun l => H l = none ∧ l ≠ r) (s := .wr (4 * n + j) (((cf n).drop (8 * j)).take 8)) (t := t') ⟨l', ⟨n1, n2⟩, htx, hlx⟩)
          rw [List.append_assoc, ← bsS_succ] at hS5
          exact ⟨_, _, rfl, (eB.trans b5).mut hrn, upd_same, hS5.upd (b5 _ _ hr) fun l h => h.2⟩
        · rintro σ2 B ⟨zs, y6', rfl, eB, hr, hS⟩
          refine ⟨zs, _, _, rfl, eB, hr, ?_⟩
          rw [htk, duS_snoc]
          exact hS
      · rintro σ' B ⟨ys, y5, y6, rfl, eB, hr, hS⟩
        rw [hC.n, List.take_length] at hS
        have hy := hS.n
        rw [duS_len] at hy
        refine q_appU (us := [.str "flush"]) hr (ev_var rfl) (eu_tup (ea_cons ev_c ea_nil) (by simp)) (by omega) fun p1 B4 c4 hp1 => ?_
        have S1 := ((hS.mono c4).app (SL.one (N := fun l => H l = none ∧ l ≠ r) (s := .fl) (t := p1) hp1)).upd (zs := ys ++ [.ref p1]) (c4 _ _ hr) fun l h => h.2
        have e4 := (eB.trans c4).mut (o := .lst (ys ++ [.ref p1])) hrn
        have hr4 : upd B4 r (.lst (ys ++ [.ref p1])) r = some (.lst (ys ++ [.ref p1])) := upd_same
        generalize upd B4 r (.lst (ys ++ [.ref p1])) = B5 at S1 e4 hr4 ⊢
        have htb5 := e4 _ _ htb
        refine q_asgL (xs := ([g + 1, a, b, 4, 96, 0, 0, g + 1] : List Int).map V.int) (el_lst (ea_cons (ev_op (ev_var rfl) ev_c rv_I0) (ea_cons (ev_op (ev_fld (ev_var rfl) (e4 _ _ ho) TT.cl TT.nt NT.t_t) ev_c (rv_ixT (st_of htb5) (atI_nat (j := 0) rfl))) (ea_cons (ev_op (ev_fld (ev_var rfl) (e4 _ _ ho) TT.cl TT.nt NT.t_t) ev_c (rv_ixT (st_of htb5) (atI_nat (j := 1) rfl))) (ea_cons ev_c (ea_cons ev_c (ea_cons ev_c (ea_cons ev_c (ea_cons (ev_op (ev_var rfl) ev_c rv_I0) ea_nil)))))))) (by simp)) fun hd B6 hhd c6 hhx => ?_
        refine q_appU (us := [.str "write", .int ((((g + 1) % 2).toNat : Nat) : Int), .ref hd]) (c6 _ _ hr4) (ev_var rfl) (eu_tup (ea_cons ev_c (ea_cons (ev_is (ev_op (ev_int1 (ev_op (ev_var rfl) ev_c rv_I0)) ev_c (rv_I (by show (0 : Int) < 2; decide))) (by congr 1; omega)) (ea_cons (ev_var rfl) ea_nil))) (by simp)) (by rw [List.length_append]; show ys.length + 1 < 100000; omega) fun p2 B7 c7 hp2 => ?_
        have S2 := ((S1.mono (c6.trans c7)).app (SL.one (N := fun l => H l = none ∧ l ≠ r) (s := .wr ((g + 1) % 2).toNat [g + 1, a, b, 4, 96, 0, 0, g + 1]) (t := p2) ⟨hd, ⟨fresh_back e4 hhd, fun z => by rw [z, hr4] at hhd; cases hhd⟩, hp2, c7 _ _ hhx⟩)).upd (zs := ys ++ [.ref p1] ++ [.ref p2]) ((c6.trans c7) _ _ hr4) fun l h => h.2
        have e7 := (e4.trans (c6.trans c7)).mut (o := .lst (ys ++ [.ref p1] ++ [.ref p2])) hrn
        have hr7 : upd B7 r (.lst (ys ++ [.ref p1] ++ [.ref p2])) r = some (.lst (ys ++ [.ref p1] ++ [.ref p2])) := upd_same
        generalize upd B7 r (.lst (ys ++ [.ref p1] ++ [.ref p2])) = B8 at S2 e7 hr7 ⊢
        refine q_appU (us := [.str "flush"]) hr7 (ev_var rfl) (eu_tup (ea_cons ev_c ea_nil) (by simp)) (by rw [List.length_append, List.length_append]; show ys.length + 1 + 1 < 100000; omega) fun p3 B9 c9 hp3 => ?_
        have S3 := ((S2.mono c9).app (SL.one (N := fun l => H l = none ∧ l ≠ r) (s := .fl) (t := p3) hp3)).upd (zs := ys ++ [.ref p1] ++ [.ref p2] ++ [.ref p3]) (c9 _ _ hr7) fun l h => h.2
        have e9 := (e7.trans c9).mut (o := .lst (ys ++ [.ref p1] ++ [.ref p2] ++ [.ref p3])) hrn
        refine s_ret (ev_var rfl) fun BA cA => qq r BA _ hrn (e9.trans cA) (cA _ _ upd_same) ?_
        unfold ldS
        rw [if_neg hne]
        have S4 := (S3.mono cA).go (N' := fun l => H l = none) (fun l h => h.1) (fun _ _ h => h) (fun _ _ _ h => h)
        have e : duS cf ls ++ tlS g a b 96 = duS cf ls ++ [.fl] ++ [.wr ((g + 1) % 2).toNat [g + 1, a, b, 4, 96, 0, 0, g + 1]] ++ [.fl] := by
          unfold tlS
          simp
        rw [e]
        exact S4
end

end K24

set_option Elab.async false
set_option linter.all false
set_option maxRecDepth 100000
set_option maxHeartbeats 4000000
namespace K24
open PySem PySem.Spec PyProof.Rows L2 Evl LK LT LG LS LQ LX LO LN LP LH LV LZ LW StX LD
open ND (DK Dk St)
open NS (fr fr1 cv hv headV used In flds)
open NT (Cc Sk Sd ST SP Fm cont newB fre setM dropD TxT TxH tno memL Txt hfl sfl)
theorem dp_of {K : PySem.W.Frag} {H : Hp} : ∀ (xs : List V) (ds : List PyData), xs.length = ds.length → (∀ (i : Nat) v d, xs[i]? = some v → ds[i]? = some d → Dp K H v d) → DpAll K H xs ds
  | [], [], _, _ => .nil
  | v :: xs, d :: ds, hl, h => .cons (h 0 v d rfl rfl) (dp_of xs ds (Nat.succ.inj hl) fun i => h (i + 1))
def dLF (f : Nat → List Int) (n : Nat) : PyData := .list ((List.range n).map fun i => .list ((f i).map PyData.int))
theorem sh_dLF (f : Nat → List Int) (n : Nat) : Sh 2 (dLF f n) := sh_lst fun d hd => by
  obtain ⟨i, _, rfl⟩ := List.mem_map.mp hd
  exact sh_lst (sh_ints _)
structure Img (G : Hp) (im : Addr) (f : Nat → List Int) : Prop where
  a : ∃ ys, G im = some (.lst ys) ∧ ys.length = 4 * 96 ∧ ∀ (i : Nat) v, ys[i]? = some v → ∃ l, v = .ref l ∧ l ≠ im ∧ G l = some (.lst ((f i).map V.int))
theorem Img.dp {K : PySem.W.Frag} {G : Hp} {im : Addr} {f : Nat → List Int} (h : Img G im f) : Dp K G (.ref im) (dLF f (4 * 96)) := by
  obtain ⟨ys, h1, h2, h3⟩ := h.a
  refine .lst (sq_of h1) (dp_of _ _ (by rw [h2, List.length_map, List.length_range]) fun i v d hv hd => ?_)
  obtain ⟨l, rfl, _, hl⟩ := h3 i v hv
  have hi : i < 4 * 96 := by rw [← h2]; exact (List.getElem?_eq_some_iff.mp hv).1
  rw [List.getElem?_map, List.getElem?_range hi] at hd
  cases hd
  exact .lst (sq_of hl) (dp_ints _)
theorem Img.gx {G G' : Hp} {im : Addr} {f : Nat → List Int} (h : Img G im f) (x : Gx G G') : Img G' im f := ⟨let ⟨ys, h1, h2, h3⟩ := h.a; ⟨ys, x.l h1, h2, fun i v hv => let ⟨l, a, n, b⟩ := h3 i v hv; ⟨l, a, n, x.l b⟩⟩⟩
theorem Img.set {G : Hp} {im l : Addr} {f : Nat → List Int} {ys : List V} {s : Nat} {ns : List Int} (h : Img G im f) (hy : G im = some (.lst ys)) (hl : G l = some (.lst (ns.map V.int))) (n : l ≠ im) : Img (upd G im (.lst (ys.set s (.ref l)))) im (LP.fset f s ns) := by
  obtain ⟨ys', h1, h2, h3⟩ := h.a
  rw [hy] at h1
  cases h1
  refine ⟨_, upd_same, by rw [List.length_set]; exact h2, fun i v hv => ?_⟩
  rw [List.getElem?_set] at hv
  by_cases e : s = i
  · subst e
    rw [if_pos rfl] at hv
    split at hv
    · cases hv
      refine ⟨l, rfl, n, ?_⟩
      rw [upd_ne n, hl]
      unfold LP.fset
      rw [if_pos rfl]
    · cases hv
  · rw [if_neg e] at hv
    obtain ⟨l', a, n', b⟩ := h3 i v hv
    refine ⟨l', a, n', ?_⟩
    rw [upd_ne n', b]
    unfold LP.fset
    rw [if_neg fun z => e z.symm]
def afS1 (g : Nat → List Int) : Stp → Nat → List Int
  | .wr s ns => LP.fset g s ns
  | .fl => g
def afS (f : Nat → List Int) (ss : List Stp) : Nat → List Int := ss.foldl afS1 f
theorem afS_snoc (f : Nat → List Int) (ss : List Stp) (s : Stp) : afS f (ss ++ [s]) = afS1 (afS f ss) s := by
  unfold afS
  rw [List.foldl_append]
  rfl
theorem due_rn : ∀ (ss : List Stp) (x : (Nat → List Int) × List (Nat × List Int)), ND.due (ss.foldl stS x).1 (ss.foldl stS x).2 = ss.foldl afS1 (ND.due x.1 x.2)
  | [], _ => rfl
  | .wr s ns :: r, x => by
    have := due_rn r (stS x (.wr s ns))
    rw [show ND.due (stS x (.wr s ns)).1 (stS x (.wr s ns)).2 = afS1 (ND.due x.1 x.2) (.wr s ns) from ND.due_snoc x.1 x.2 (s, ns)] at this
    exact this
  | .fl :: r, x => due_rn r (stS x .fl)
theorem rnS_af {f : Nat → List Int} {ss : List Stp} (h : (rnS f ss).2 = []) : (rnS f ss).1 = afS f ss := by
  have := due_rn ss (f, [])
  have e : ND.due (rnS f ss).1 (rnS f ss).2 = afS f ss := this
  rw [h] at e
  exact e
def spLaf : Sp := fun vs H Q _ => ∃ (im st : Addr) (f : Nat → List Int) (xs : List V) (ss : List Stp) (N : Addr → Prop), vs = [.ref im, .ref st] ∧ Img H im f ∧ H st = some (.lst xs) ∧ SL N H xs ss ∧ ss.length ≤ 300 ∧ (∀ s ∈ ss, StK 96 s) ∧
  ∀ p H1, H p = none → Ex H H1 → Img H1 p (afS f ss) → Q (.ref p) H1
section
variable {P : Program} {w : World} {K : PySem.W.Frag} {mg : Str → Option Value} {base : Heap} {c : Cc} {CN CO Pm Pw : Addr}
theorem ok_laf {f : Addr} {fd : FuncData} (F : Fun K "_law_after" "_law_after" sLaf f fd) (T : Txt mg) : FnOk P w K mg base CX0 1 f fd ["image", "steps"] spLaf := by
  refine F.ok scLaf (fun vs H Q E h => ?_) (fun cdv A outer s H vs Q E hr h => ?_)
  · obtain ⟨im, st, f, xs, ss, N, rfl, _⟩ := h
    rfl
  · obtain ⟨im, st, f, xs, ss, N, rfl, hI, hst, hS, h300, hk, q⟩ := h
    refine ⟨_, (pss_cons (ps_setLc (i := 2) (own := [("words", 4)]) (g := gName 4) (tt := tYes) rfl scLaf.nd rfl rfl (sw_true rfl rfl rfl (by decide +kernel)) (pi_list (pv 0)) (blkOk_by (own := [("words", 4)]) (N := ["image", "steps", "after", "step", "words"]) (sc := defScope sLaf) (by decide +kernel)) (fun _ _ _ _ _ => pg_name (i := 4) scLaf.nd rfl (Or.inl rfl)) (fun _ _ _ _ _ => pts_nil) (fun _ _ _ _ _ => (pe_callTy (r := rListS K) call_list_of (by rfl) T.list (by decide +kernel) (pa_cons (pv 4) pa_nil))))
      (pss_cons (ps_for PassesOwn.never rfl (pi_list (pv 1)) (pg_name (i := 3) scLaf.nd rfl (Or.inl rfl)) (pss_one (ps_if (pt_cmpR op_eq (pe_ix ix_tup (pv 3) pe_int (fun _ _ => rfl)) pe_str (nomark _)) (pss_one (ps_asg (pe_callTy call_list_of (by rfl) T.list (by decide +kernel) (pa_cons (pe_ix ix_tup (pv 3) pe_int (fun _ _ => rfl)) pa_nil)) (pg_sub (pv 2) (pe_ix ix_tup (pv 3) pe_int (fun _ _ => rfl)) set_list))) pss_nil)))
      (pss_one (ps_ret (pv 2))))), ?_⟩
    obtain ⟨ys, hy1, hy2, hy3⟩ := hI.a
    refine er_asg (LP.er_L (R := fun i _ y B => ∃ l, y = .ref l ∧ B l = some (.lst ((f i).map V.int)) ∧ H l = none) (ev_var rfl) (sq_of hy1) (by rw [hy2]; decide) (fun _ => rfl) (fun i xs y B B' e ⟨l, a, b, c⟩ => ⟨l, a, e _ _ b, c⟩) (fun i x D B hD e hn hx ws _ _ Q' q' => by
      obtain ⟨l, rfl, _, hl⟩ := hy3 i x hx
      exact el_list (ev_var rfl) (sq_of (e _ _ hl)) B (Ex.refl _) _ fun p B2 hp e2 h2 => q' _ _ e2 ⟨p, rfl, LP.but_new hn hp h2, fresh_back e hp⟩)) fun p zs B1 hp b1 hpx hzl hzr => ?_
    refine q_forL (a := st) (ev_var rfl) (sq_of (b1 _ _ hst)) (fun i σ' B => ∃ y3, σ' = [some (.ref im), some (.ref st), some (.ref p), y3, none] ∧ Ex H B ∧ Img B p (afS f (ss.take i))) (fun B e => ⟨none, rfl, b1.trans e, ⟨zs, e _ _ hpx, by rw [hzl]; exact hy2, fun i v hv => by
      obtain ⟨l, a, b, c⟩ := hzr i v hv
      refine ⟨l, a, fun z => ?_, e _ _ b⟩
      have := List.getElem?_eq_some_iff.mp hv
      rw [z, hpx] at b
      cases hq : f i with
      | nil => 
        rw [hq] at b
        have b := Option.some.inj b
        injection b with b
        rw [b] at hzl
        rw [hy2] at hzl
        cases hzl
      | cons x r =>
        rw [hq] at b
        have b := Option.some.inj b
        injection b with b
        rw [b] at hv
        obtain ⟨i1, i2⟩ := List.getElem?_eq_some_iff.mp hv
        rw [← i2, List.getElem_map] at a
        cases a⟩⟩) (fun i σ' B _ ⟨y3, _, e, _⟩ => sq_of (e _ _ hst)) ?_ ?_
    · rintro i x σ' B hx ⟨y3, rfl, eB, hI2⟩
      have hi : i < ss.length := by rw [← hS.n]; exact (List.getElem?_eq_some_iff.mp hx).1
      obtain ⟨s, hs⟩ : ∃ s, ss[i]? = some s := ⟨_, List.getElem?_eq_getElem hi⟩
      have hsk := hk s (List.mem_of_getElem? hs)
      have htk : ss.take (i + 1) = ss.take i ++ [s] := by rw [List.take_add_one, hs]; rfl
      obtain ⟨t, ht1, ht2⟩ := hS.a i s hs
      rw [ht1] at hx
      cases hx
      cases s with
      | wr sn ns =>
        obtain ⟨l, _, h1, h2⟩ := ht2
        obtain ⟨k1, k2, k3⟩ := hsk
        have h1' := eB _ _ h1
        obtain ⟨us, hu1, hu2, hu3⟩ := hI2.a
        refine s_if (b := true) (et_is (et_test (ev_op (ev_op (ev_var rfl) ev_c (rv_ixT (st_of h1') (atI_nat (j := 0) rfl))) ev_c (rv_eq rfl))) (by simp)) (fun _ B3 b3 => ?_) (fun h => by cases h)
        refine LP.s_setLL (j := sn) (b3 _ _ hu1) (el_list (ev_op (ev_var rfl) ev_c (rv_ixT (st_of (b3 _ _ h1')) (atI_nat (j := 2) rfl))) (sq_of ((eB.trans b3) _ _ h2))) (ev_var rfl) (ev_op (ev_var rfl) ev_c (rv_ixT (st_of (b3 _ _ h1')) (atI_nat (j := 1) rfl))) (by rw [hu2]; exact k1) fun q' B4 hq b4 hqx => ?_
        refine ⟨_, rfl, ((eB.trans b3).trans b4).mut hp, ?_⟩
        rw [htk, afS_snoc]
        exact (hI2.gx (Gx.ex (b3.trans b4))).set ((b3.trans b4) _ _ hu1) hqx (fun z => by rw [z, b3 _ _ hu1] at hq; cases hq)
      | fl =>
        have h1 : H t = some (.tup [.str "flush"]) := ht2
        refine s_if (b := false) (et_is (et_test (ev_op (ev_op (ev_var rfl) ev_c (rv_ixT (st_of (eB _ _ h1)) (atI_nat (j := 0) rfl))) ev_c (rv_eq rfl))) (by decide)) (fun h => by cases h) (fun _ B3 b3 => ?_)
        refine ⟨_, rfl, eB.trans b3, ?_⟩
        rw [htk, afS_snoc]
        exact hI2.gx (Gx.ex b3)
    · rintro σ' B ⟨y3, rfl, eB, hI2⟩
      rw [hS.n, List.take_length] at hI2
      exact s_ret (ev_var rfl) fun B2 b2 => q p B2 hp (eB.trans b2) (hI2.gx (Gx.ex b2))
end

end K24

set_option Elab.async false
set_option linter.all false
set_option maxRecDepth 100000
set_option maxHeartbeats 4000000
namespace K24
open PySem PySem.Spec PyProof.Rows L2 Evl LK LT LG LS LQ LX LO LN LP LH LV LZ LW StX LD
open ND (DK Dk St)
open NS (fr fr1 cv hv headV used In flds)
open NT (Cc Sk Sd ST SP Fm cont newB fre setM dropD TxT TxH tno memL Txt hfl sfl)
theorem el_lcR2 {σ : L2.St} {H : Hp} {te : TE} {t : TT} {ta : TA} {j : Nat} {vs : List Nat} {lo n : Int} (f : Nat → Bool) (v : Nat → V) (h : EvA ta σ H [.int lo, .int n]) (hn : 0 ≤ lo ∧ lo ≤ 40000 ∧ lo ≤ n ∧ n ≤ 40000) (hw : ∀ x, wipe ((wipe σ vs).set j (some x)) vs = wipe σ vs)
    (ht : ∀ (i : Nat) H1, Ex H H1 → lo + (i : Int) < n → EvT t ((wipe σ vs).set j (some (.int (lo + (i : Int))))) H1 (f i)) (he : ∀ (i : Nat) H1, Ex H H1 → lo + (i : Int) < n → f i = true → Ev te ((wipe σ vs).set j (some (.int (lo + (i : Int))))) H1 (v i)) :
    EvL (tLc (iRng2 ta) (gName j) t te vs) σ H (given (n - lo).toNat f v) := fun H0 e Q q => h H0 e _ fun H1 e1 => ⟨lo, n, rfl, ⟨by omega, by omega, by omega, by omega⟩, fun Dl hD =>
  lc_range (lo := lo) (n := (n - lo).toNat) (Cw H1 f v Dl) ⟨hD, Ex.new hD, upd_same⟩ (fun i H' hi p => 
    ⟨hw _, cw_turn p (by omega) (ht i H1 (e.trans e1) (by omega)) (fun hf => he i H1 (e.trans e1) (by omega) hf)⟩) (fun H' p => q Dl H' (fresh_back e1 p.1) (e1.trans p.2.1) p.2.2)⟩
theorem hv_pos {cs : List Int} (x : Nat) : hv (NS.pos cs) x = decide (0 < cv cs x) := by
  unfold NS.hv NS.pos NS.cv
  rw [List.getD_eq_getElem?_getD, List.getD_eq_getElem?_getD, List.getElem?_map]
  cases cs[x]? with
  | none => rfl
  | some v => rfl
theorem cv_at {cs : List Int} {k : Nat} (h : k < cs.length) : (cs.map V.int)[k]? = some (.int (cv cs k)) := by
  rw [List.getElem?_map, List.getElem?_eq_getElem h]
  unfold NS.cv
  rw [List.getD_eq_getElem?_getD, List.getElem?_eq_getElem h]
  rfl
def spLse (c : Cc) : Sp := fun vs H Q _ => ∃ (G : Hp) (q nu : Addr) (k : Sk) (d : Sd), vs = [.ref q, .ref nu] ∧ ST c G H q k d ∧ k.n = 96 ∧ H nu = some (.lst (d.cs.map V.int)) ∧ k.hs = NS.pos d.cs ∧ (d.mem = fun _ => none) ∧ (∀ x, x < 5 → cv d.cs x = 1) ∧ (∀ x, 0 ≤ cv d.cs x) ∧ RetV (.bl true) H Q
section
variable {c : Cc} {G H : Hp} {q : Addr} {k : Sk} {d : Sd}
theorem nb_nil (hm : d.mem = fun _ => none) : memL k d = [] := by
  unfold NT.memL
  rw [List.filter_eq_nil_iff]
  intro a _
  rw [hm]
  simp
theorem fr_pos {cs : List Int} (h96 : cs.length = 96) (h5 : ∀ x, x < 5 → cv cs x = 1) (v : Nat → V) : (((fr cs (NS.pos cs) false).length : Nat) : Int) = ((given 91 (fun i => decide (cv cs (5 + i) = 0)) v).length : Int) := by
  have e1 : fr1 cs (NS.pos cs) false = fun x => decide (cv cs x = 0) := funext fun x => by
    unfold NS.fr1
    rw [hv_pos]
    by_cases e : cv cs x = 0
    · rw [e]; rfl
    · rw [decide_eq_false (fun z => e (V.int.inj z)), decide_eq_false e]
      rfl
  have e2 : (List.range 96) = List.range 5 ++ (List.range 91).map (5 + ·) := by decide +kernel
  unfold NS.fr given
  rw [e1, h96, e2, List.filter_append, List.length_map, List.filter_map, List.length_append, List.length_map]
  rw [show (List.range 5).filter (fun x => decide (cv cs x = 0)) = [] from List.filter_eq_nil_iff.mpr fun a ha => by
    rw [h5 a (List.mem_range.mp ha)]
    decide]
  rw [List.length_nil, Nat.zero_add]
  rfl
end
section
variable {P : Program} {w : World} {K : PySem.W.Frag} {mg : Str → Option Value} {base : Heap} {c : Cc} {CN CO Pm Pw : Addr}
theorem ok_lse {f f1 f2 f3 f4 f5 : Addr} {fd fd1 fd2 fd3 fd4 fd5 : FuncData} (F : Fun K "_law_settled" "_law_settled" sLse f fd)
    (Guses : FnOk P w K mg base (L2.CX P w) 4 f1 fd1 ["self", "pointer"] (NT.spUses c CN)) (buses : Binds K fd1 ["self", "pointer"] []) (muses : Meth K c.T "uses" f1)
    (Gis_new : FnOk P w K mg base (L2.CX P w) 5 f2 fd2 ["self", "pointer"] (NT.spNew c CN)) (bis_new : Binds K fd2 ["self", "pointer"] []) (mis_new : Meth K c.T "is_new" f2)
    (Gis_held : FnOk P w K mg base (L2.CX P w) 3 f3 fd3 ["self", "block"] (NS.spAt c.S CN NS.always fun _ hs k => .bl (hv hs k))) (bis_held : Binds K fd3 ["self", "block"] []) (mis_held : Meth K c.S "is_held" f3)
    (Gnew_blocks : FnOk P w K mg base CX0 1 f4 fd4 ["self"] (NT.spNb c)) (bnew_blocks : Binds K fd4 ["self"] []) (mnew_blocks : Meth K c.T "new_blocks" f4)
    (Gfree : FnOk P w K mg base CX0 3 f5 fd5 ["self"] (NT.spFree c)) (bfree : Binds K fd5 ["self"] []) (mfree : Meth K c.T "free" f5)
    (T : Txt mg) (TT : TxT mg K c.T) (TS : NS.Txt mg K c.S) : FnOk P w K mg base CX0 6 f fd ["store", "numbers"] (spLse c) := by
  refine F.ok (k := 5) scLse (fun vs H Q E h => ?_) (fun cdv A outer s H vs Q E hr h => ?_)
  · obtain ⟨G, q, nu, k, d, rfl, _⟩ := h
    rfl
  · obtain ⟨G, q, nu, k, d, rfl, S, kn, hnu, hhs, hm, h5, hp, qq⟩ := h
    refine ⟨_, (pss_cons (ps_for PassesOwn.never rfl (pi_range2 (by rfl) T.range (pa_cons pe_int (pa_cons pe_int pa_nil))) (pg_name (i := 2) scLse.nd rfl (Or.inl rfl)) (pss_cons (ps_set (i := 3) scLse.nd rfl (Or.inl rfl) (pe_tup (pa_cons (pv 2) (pa_cons pe_int pa_nil))))
      (pss_cons (ps_if (PW.pt (pw_or (pt_cmpR op_ne (pe_meth (pv 0) TT.cl muses Guses (hr.mono (by decide)) buses .nil passL (pa_cons (pv 3) pa_nil)) (pe_ix ix_list (pv 1) (pv 2) (fun _ _ => rfl)) (nomark _)) (pw_or1 (pt_val (pe_meth (pv 0) TT.cl mis_new Gis_new (hr.mono (by decide)) bis_new .nil passL (pa_cons (pv 3) pa_nil)))))) (pss_one (ps_ret pe_bl)) pss_nil)
      (pss_one (ps_if (pt_cmpR op_ne (pe_meth (pe_fld (pv 0) rfl) TS.cl mis_held Gis_held (hr.mono (by decide)) bis_held .nil passL (pa_cons (pv 2) pa_nil)) (pe_cmpR op_gt (pe_ix ix_list (pv 1) (pv 2) (fun _ _ => rfl)) pe_int (nomark _)) (nomark _)) (pss_one (ps_ret pe_bl)) pss_nil)))))
      (pss_one (ps_ret (pe_and (pe_cmpR (op_eqD hr.units) (pe_meth0 (pv 0) TT.cl mnew_blocks Gnew_blocks (hr.mono (by decide)) bnew_blocks .nil pass0) (pe_lst pa_nil) (nomark _)) (pe_one (pe_cmpR op_eq (pe_meth0 (pv 0) TT.cl mfree Gfree (hr.mono (by decide)) bfree .nil pass0) (pe_callB call_len_seq (by rfl) T.len (by decide +kernel) (pa_cons (pe_lc (own := [("k", 4)]) (g := gName 4) rfl scLse.nd (pi_range2 (by rfl) T.range (pa_cons pe_int (pa_cons pe_int pa_nil))) (blkOk_by (own := [("k", 4)]) (N := ["store", "numbers", "number", "pointer", "k"]) (sc := defScope sLse) (by decide +kernel)) (fun _ _ _ _ _ => pg_name (i := 4) scLse.nd rfl (Or.inl rfl)) (fun _ _ _ _ _ => (pts_one (pt_cmpR op_eq (pe_ix (r := rIxL K) ix_list (pv 1) (pv 4) (fun _ _ => rfl)) pe_int (nomark _)))) (fun _ _ _ _ _ => (pv 4))) pa_nil)) (nomark _))))))), ?_⟩
    obtain ⟨dx, ho⟩ := S.o
    obtain ⟨ds, gs⟩ := S.s
    have hs := S.dk.g _ _ gs
    have lc := S.lc
    have nb : ∀ i, newB k d i = false := fun i => by
      unfold NT.newB
      rw [hhs, hv_pos]
      by_cases e : 0 < cv d.cs i
      · rw [decide_eq_true e]
        simp
      · rw [decide_eq_false (show ¬ cv d.cs i > 0 from e)]
        rfl
    refine q_forR2 (lo := 5) (n := 96) (ea_cons ev_c (ea_cons ev_c ea_nil)) ⟨by decide, by decide, by decide, by decide⟩ (fun i σ' B => ∃ y2 y3, σ' = [some (.ref q), some (.ref nu), y2, y3, none] ∧ Ex H B) (fun B e => ⟨none, none, rfl, e⟩) ?_ ?_
    · rintro i σ' B hi ⟨y2, y3, rfl, e⟩
      have hk : 5 + i < k.n := by omega
      have hk' : 5 + i < d.cs.length := by omega
      have e5 : (5 : Int) + (i : Int) = ((5 + i : Nat) : Int) := by push_cast; rfl
      rw [e5]
      refine q_asgU (xs := [.int ((5 + i : Nat) : Int), .int 1]) (eu_tup (ea_cons (ev_var rfl) (ea_cons ev_c ea_nil)) (by simp)) fun t B2 _ b2 ht => ?_
      have T2 := S.ex (e.trans b2)
      have e2 := e.trans b2
      refine q_when (b := false) (et_is (et_or (et_test (ev_op (ev_meth (ev_var rfl) (e2 _ _ ho) (tno (.inr (.inr (.inr (.inr (.inr (.inr (.inr (.inr (.inr (.inl rfl))))))))))) (ea_cons (ev_var rfl) ea_nil) (sv_uses T2 ht hk)) (ev_op (ev_var rfl) (ev_var rfl) (rv_ixL (sq_of (e2 _ _ hnu)) (atI_nat (cv_at hk')))) (rv_ne rfl))) (fun _ => et_B (ev_meth (ev_var rfl) (e2 _ _ ho) (tno (.inr (.inr (.inr (.inl rfl))))) (ea_cons (ev_var rfl) ea_nil) (sv_new T2 ht hk)))) (by rw [nb]; simp)) (fun h => by cases h) (fun _ B3 b3 => ?_)
      have e3 := e2.trans b3
      have T3 := S.ex e3
      exact s_when (b := false) (et_is (et_test (ev_op (ev_meth (ev_fld (ev_var rfl) (e3 _ _ ho) TT.cl TT.ns NT.t_s) (e3 _ _ hs) (NS.fl_no _ _ _ ⟨by decide +kernel, by decide +kernel, by decide +kernel⟩) (ea_cons (ev_var rfl) ea_nil) (NS.sv_uses (CN := CN) (f := fun _ hs k => .bl (hv hs k)) T3.sp hk')) (ev_op (ev_op (ev_var rfl) (ev_var rfl) (rv_ixL (sq_of (e3 _ _ hnu)) (atI_nat (cv_at hk')))) ev_c rv_I0) (rv_ne rfl))) (by rw [hhs, hv_pos]; simp)) (fun h => by cases h) (fun _ B4 b4 => ⟨_, _, rfl, e3.trans b4⟩)
    · rintro σ' B ⟨y2, y3, rfl, e⟩
      have T2 := S.ex e
      have X1 : EvL (tMeth c.T "new_blocks" (NT.spNb c) [] E0 (tVar 0) tNil) [some (.ref q), some (.ref nu), y2, y3, none] B [] := el_meth (ev_var rfl) (e _ _ ho) (tno (.inr (.inr (.inr (.inr (.inr (.inr (.inr (.inr (.inr (.inr (.inr (.inl rfl))))))))))))) ea_nil (fun A e' Q q' E' => ⟨G, q, k, d, rfl, T2.ex e', by rw [nb_nil hm]; decide, by rw [nb_nil hm]; exact q'⟩)
      have X2 := ev_opLL (r := rEqD K) (z := .bl true) X1 (el_lst ea_nil (by decide)) (fun p r B hp hr _ => rv_eqD (d := .list []) (.lst (sq_of hp) .nil) (.lst (sq_of hr) .nil) (sh_lst (n := 0) fun d hd => by cases hd) (by decide))
      refine s_ret (ev_andV X2 (fun _ => ev_is (w := .bl true) (ev_op (ev_meth0 (ev_var rfl) (e _ _ ho) (tno (.inr (.inl rfl))) (NT.sv_free T2)) (ev_lenN (el_lcR2 (lo := 5) (n := 96) (fun i => decide (cv d.cs (5 + i) = 0)) (fun i => .int ((5 : Int) + (i : Int))) (ea_cons ev_c (ea_cons ev_c ea_nil)) ⟨by decide, by decide, by decide, by decide⟩ (fun _ => rfl) (fun i H1 e1 hi => et_is (et_test (ev_op (ev_op (ev_var rfl) (ev_is (w := .int ((5 + i : Nat) : Int)) (ev_var rfl) (by push_cast; rfl)) (rv_ixL (sq_of ((e.trans e1) _ _ hnu)) (atI_nat (cv_at (by omega))))) ev_c (rv_eq rfl))) (by simp)) (fun i H1 e1 hi _ => ev_var rfl))) (rv_eq rfl)) (by
        congr 1
        unfold NT.fre
        rw [hhs]
        rw [fr_pos (by omega) h5]
        exact decide_eq_true rfl))) fun H2 e2 => qq H2 (e.trans e2)
end

end K24

set_option Elab.async false
set_option linter.all false
set_option maxRecDepth 100000
set_option maxHeartbeats 4000000
namespace K24
open PySem PySem.Spec PyProof.Rows L2 Evl LK LT LG LS LQ LX LO LN LP LH LV LZ LW StX LD
open ND (DK Dk St)
open NS (fr fr1 cv hv headV used In flds)
open NT (Cc Sk Sd ST SP Fm cont newB fre setM dropD TxT TxH tno memL Txt hfl sfl)
/-! ### the mark -/
theorem topI_lt {val : Nat → Int} {g : Int} : ∀ {n : Nat}, (∀ i, i ≤ n → val i < g) → LH.topI val n < g
  | 0, h => h 0 (Nat.le_refl 0)
  | n + 1, h => by
    unfold LH.topI
    split
    · exact h _ (Nat.le_refl _)
    · exact topI_lt fun i hi => h i (by omega)
theorem topI_ge {val : Nat → Int} : ∀ {n i : Nat}, i ≤ n → val i ≤ LH.topI val n
  | 0, i, h => by
    obtain rfl : i = 0 := by omega
    exact Int.le_refl _
  | n + 1, i, h => by
    unfold LH.topI
    by_cases e : i = n + 1
    · subst e
      split <;> omega
    · have := topI_ge (val := val) (n := n) (i := i) (by omega)
      split <;> omega
theorem mark_lt {g : Int} {f : Nat → List Int} (h : Lf g f) : ND.markOf f < g := topI_lt fun i hi => h (4 + i) (by omega) (by omega)
theorem mark_ge {f : Nat → List Int} {s : Nat} (h4 : 4 ≤ s) (h20 : s < 20) : cellv (f s) 7 ≤ ND.markOf f := by
  have := topI_ge (val := fun i => cellv (f (4 + i)) 7) (n := 15) (i := s - 4) (by omega)
  rw [show 4 + (s - 4) = s by omega] at this
  exact this
/-! ### new blocks have numbers from 5 on -/
def M5 (d : Sd) : Prop := ∀ i ws, d.mem i = some ws → 5 ≤ i
theorem m5_set {mem : Nat → Option (List Int)} {i : Nat} {o : Option (List Int)} (h : ∀ j ws, mem j = some ws → 5 ≤ j) (h5 : o ≠ none → 5 ≤ i) : ∀ j ws, setM mem i o j = some ws → 5 ≤ j := fun j ws hj => by
  unfold NT.setM at hj
  by_cases e : j = i
  · rw [if_pos e] at hj
    rw [e]
    exact h5 (by rw [hj]; exact fun z => by cases z)
  · rw [if_neg e] at hj
    exact h j ws hj
theorem m5_drop {d : Sd} {i : Nat} (h : M5 d) : M5 (dropD d i) := fun j ws hj => by
  unfold NT.dropD at hj
  dsimp only at hj
  split at hj
  · exact m5_set h (fun z => absurd rfl z) j ws hj
  · exact h j ws hj
theorem m5_st {hs : List Bool} {s : Wd} {n : Nat} (I : WI hs s n) (hn : n < 66) (x pk : Int) (h : M5 s.1) : M5 (stW hs x pk s).1 := by
  unfold stW
  split
  · obtain ⟨_, h5, _⟩ := hdW_ok I hn
    exact m5_set h fun _ => h5
  · rename_i hne
    have hne : s.2.length ≠ 0 := fun z => hne (.inr z)
    obtain ⟨_, _, hin⟩ := rcW_at (pk := pk) hne
    obtain ⟨h5, _⟩ := I.rc _ hin
    split
    · split
      · exact m5_set h fun _ => h5
      · exact h
    · split
      · split
        · exact m5_drop h
        · exact h
      · split
        · exact m5_drop h
        · split
          · exact h
          · exact h
theorem m5_ru {hs : List Bool} {ts : List Int} {st n : Nat} {s : Wd} (I : WI hs s n) (h : M5 s.1) : ∀ j, n + j ≤ 66 → M5 (ruW hs ts st j s).1
  | 0, _ => h
  | j + 1, hj => m5_st (WI.ru I j (by omega)) (by omega) _ _ (m5_ru I h j (by omega))
/-! ### the steps -/
theorem eqv_refl2 (a b : Int) : PyData.eqv (.tuple ([a, b].map PyData.int)) (.tuple ([a, b].map PyData.int)) = true := by
  simp [PyData.eqv, PyData.eqvAll]
theorem cs_ld {k : Sk} {d : Sd} {a b mk : Int} (kn : k.n = 96) (h : mk < k.g ↔ ND.markOf k.f < k.g) : ldS k.g mk a b (cont k d) (memL k d) = csS k d a b 5 1 := by
  unfold ldS csS duS nbS
  rw [kn]
  by_cases e : mk < k.g
  · have e2 := h.mp e
    simp only [e, e2, and_true]
    rfl
  · have e2 : ¬ ND.markOf k.f < k.g := fun z => e (h.mpr z)
    simp only [e, e2, and_false]
    rfl
theorem bs_mem {i m : Nat} {ws : List Int} {s : Stp} (h : s ∈ bsS i ws m) : ∃ j, j < m ∧ s = .wr (4 * i + j) ((ws.drop (8 * j)).take 8) := by
  unfold bsS at h
  obtain ⟨j, hj, rfl⟩ := List.mem_map.mp h
  exact ⟨j, List.mem_range.mp hj, rfl⟩
theorem afS_app (f : Nat → List Int) (a b : List Stp) : afS f (a ++ b) = afS (afS f a) b := by
  unfold afS
  rw [List.foldl_append]
theorem afS_no {x : Nat} : ∀ {ss : List Stp} {f : Nat → List Int}, (∀ s ns, Stp.wr s ns ∈ ss → s ≠ x) → afS f ss x = f x
  | [], _, _ => rfl
  | .fl :: r, f, h => afS_no (ss := r) (f := f) fun s ns hs => h s ns (List.mem_cons_of_mem _ hs)
  | .wr s ns :: r, f, h => by
    have := afS_no (ss := r) (f := LP.fset f s ns) fun s' ns' hs => h s' ns' (List.mem_cons_of_mem _ hs)
    have e : afS f (.wr s ns :: r) x = afS (LP.fset f s ns) r x := rfl
    rw [e, this]
    unfold LP.fset
    rw [if_neg fun z => h s ns (List.mem_cons_self ..) z.symm]
theorem afS_bs {f : Nat → List Int} {i j : Nat} {ws : List Int} (hj : j < 4) : afS f (bsS i ws 4) (4 * i + j) = (ws.drop (8 * j)).take 8 := by
  have e : afS f (bsS i ws 4) = LP.fset (LP.fset (LP.fset (LP.fset f (4 * i + 0) ((ws.drop (8 * 0)).take 8)) (4 * i + 1) ((ws.drop (8 * 1)).take 8)) (4 * i + 2) ((ws.drop (8 * 2)).take 8)) (4 * i + 3) ((ws.drop (8 * 3)).take 8) := rfl
  rw [e]
  unfold LP.fset
  rcases (by omega : j = 0 ∨ j = 1 ∨ j = 2 ∨ j = 3) with rfl | rfl | rfl | rfl
  · rw [if_neg (by omega), if_neg (by omega), if_neg (by omega), if_pos rfl]
  · rw [if_neg (by omega), if_neg (by omega), if_pos rfl]
  · rw [if_neg (by omega), if_pos rfl]
  · rw [if_pos rfl]
theorem du_mem {cf : Nat → List Int} {ls : List Nat} {s : Nat} {ns : List Int} (h : Stp.wr s ns ∈ duS cf ls) : ∃ y j, y ∈ ls ∧ j < 4 ∧ s = 4 * y + j ∧ ns = ((cf y).drop (8 * j)).take 8 := by
  unfold duS at h
  obtain ⟨y, hy, hs⟩ := List.mem_flatMap.mp h
  obtain ⟨j, hj, e⟩ := bs_mem hs
  cases e
  exact ⟨y, j, hy, hj, rfl, rfl⟩
theorem afS_du {cf : Nat → List Int} {x j : Nat} (hj : j < 4) : ∀ {ls : List Nat} {f : Nat → List Int}, ls.Nodup → x ∈ ls → afS f (duS cf ls) (4 * x + j) = ((cf x).drop (8 * j)).take 8
  | [], _, _, h => by cases h
  | y :: r, f, nd, h => by
    obtain ⟨n1, n2⟩ := List.nodup_cons.mp nd
    have e : duS cf (y :: r) = bsS y (cf y) 4 ++ duS cf r := rfl
    rw [e, afS_app]
    by_cases hx : x ∈ r
    · exact afS_du hj n2 hx
    · have hxy : x = y := (List.mem_cons.mp h).resolve_right hx
      subst hxy
      rw [afS_no fun s ns hs z => ?_]
      · exact afS_bs hj
      · obtain ⟨y, j', hy, hj', e, _⟩ := du_mem hs
        exact hx (by rw [show x = y by omega]; exact hy)
theorem tl_mem {g a b : Int} {n s : Nat} {ns : List Int} (h : Stp.wr s ns ∈ tlS g a b (n : Int)) : s < 2 ∧ ns = [g + 1, a, b, 4, (n : Int), 0, 0, g + 1] := by
  unfold tlS at h
  simp only [List.mem_cons, List.not_mem_nil, or_false] at h
  rcases h with h | h | h
  · cases h
  · cases h
    exact ⟨by omega, rfl⟩
  · cases h
section
variable {k : Sk} {d : Sd} {a b : Int} {hs : List Bool} {n : Nat} {l : List Nat}
theorem mem_ok (I : WI hs (d, l) n) (h : M5 d) (x : Nat) (hx : x ∈ memL k d) : 5 ≤ x ∧ (cont k d x).length = 32 ∧ Bw (cont k d x) ∧ x < k.n := by
  unfold NT.memL at hx
  obtain ⟨h1, h2⟩ := List.mem_filter.mp hx
  obtain ⟨ws, hw⟩ := Option.isSome_iff_exists.mp h2
  obtain ⟨b1, b2⟩ := I.b x ws hw
  unfold NT.cont
  rw [hw]
  exact ⟨h x ws hw, b1, b2, List.mem_range.mp h1⟩
theorem mem_len (kn : k.n = 96) (I : WI hs (d, l) n) : (memL k d).length ≤ n := by
  unfold NT.memL
  rw [kn]
  exact I.m
theorem mem_nd : (memL k d).Nodup := List.Pairwise.filter _ List.nodup_range
theorem cs_k (kn : k.n = 96) (I : WI hs (d, l) n) (h : M5 d) (g0 : 0 ≤ k.g) (a0 : 0 ≤ a) (b0 : 0 ≤ b) : ∀ s ∈ csS k d a b 5 1, StK k.n s := fun s hs => by
  unfold csS at hs
  split at hs
  · cases hs
  · rcases List.mem_append.mp hs with hs | hs
    · cases s with
      | fl => trivial
      | wr s ns =>
        obtain ⟨y, j, hy, hj, rfl, rfl⟩ := du_mem (cf := cont k d) (ls := memL k d) hs
        obtain ⟨m1, m2, m3, m4⟩ := mem_ok I h y hy
        refine ⟨by omega, ?_, fun z hz => (m3 z (List.mem_of_mem_drop (List.mem_of_mem_take hz))).1⟩
        rw [List.length_take, List.length_drop]
        omega
    · cases s with
      | fl => trivial
      | wr s ns =>
        rw [show (k.n : Int) = ((k.n : Nat) : Int) from rfl] at hs
        obtain ⟨h2, rfl⟩ := tl_mem hs
        refine ⟨by omega, rfl, fun z hz => ?_⟩
        simp only [List.mem_cons, List.not_mem_nil, or_false] at hz
        rcases hz with rfl | rfl | rfl | rfl | rfl | rfl | rfl | rfl <;> omega
theorem cs_len (kn : k.n = 96) (I : WI hs (d, l) n) (hn : n ≤ 60) : (csS k d a b 5 1).length ≤ 290 := by
  have := mem_len kn I
  unfold csS
  split
  · exact Nat.zero_le _
  · rw [List.length_append, nbS_len]
    show 4 * (memL k d).length + 3 ≤ 290
    omega
theorem cs_end : (rnS k.f (csS k d a b 5 1)).2 = [] := by
  unfold csS
  split
  · rfl
  · rw [show nbS k d (memL k d) ++ tlS k.g a b k.n = nbS k d (memL k d) ++ [.fl, .wr ((k.g + 1) % 2).toNat [k.g + 1, a, b, 4, k.n, 0, 0, k.g + 1]] ++ [.fl] by unfold tlS; simp, rnS_snoc]
    rfl
theorem cs_lf (I : WI hs (d, l) n) (h : M5 d) (hf : Lf (k.g + 1) k.f) : Lf (k.g + 1) (afS k.f (csS k d a b 5 1)) := fun s h4 h20 => by
  rw [afS_no fun s' ns hs z => ?_]
  · exact hf s h4 h20
  · unfold csS at hs
    split at hs
    · cases hs
    · rcases List.mem_append.mp hs with hs | hs
      · obtain ⟨y, j, hy, hj, rfl, rfl⟩ := du_mem (cf := cont k d) (ls := memL k d) hs
        obtain ⟨m1, m2, m3, m4⟩ := mem_ok I h y hy
        omega
      · obtain ⟨h2, rfl⟩ := tl_mem hs
        omega
theorem cut32 {ws : List Int} (h : ws.length = 32) : (ws.drop (8 * 0)).take 8 ++ (ws.drop (8 * 1)).take 8 ++ (ws.drop (8 * 2)).take 8 ++ (ws.drop (8 * 3)).take 8 = ws := by
  have e1 : ws = ws.take 8 ++ ws.drop 8 := (List.take_append_drop 8 ws).symm
  have e2 : ws.drop 8 = (ws.drop 8).take 8 ++ ws.drop 16 := by
    have := (List.take_append_drop 8 (ws.drop 8)).symm
    rw [List.drop_drop] at this
    exact this
  have e3 : ws.drop 16 = (ws.drop 16).take 8 ++ ws.drop 24 := by
    have := (List.take_append_drop 8 (ws.drop 16)).symm
    rw [List.drop_drop] at this
    exact this
  have e4 : (ws.drop 24).take 8 = ws.drop 24 := List.take_of_length_le (by rw [List.length_drop]; omega)
  show (ws.drop 0).take 8 ++ (ws.drop 8).take 8 ++ (ws.drop 16).take 8 ++ (ws.drop 24).take 8 = ws
  rw [List.drop_zero, e4, List.append_assoc, List.append_assoc, ← e3, ← e2, ← e1]
theorem cs_blk {I : WI hs (d, l) n} (h : M5 d) (hne : csS k d a b 5 1 ≠ []) (x : Nat) (hx : x ∈ memL k d) : NT.blk (afS k.f (csS k d a b 5 1)) x = cont k d x := by
  obtain ⟨m1, m2, m3, m4⟩ := mem_ok I h x hx
  have e : ∀ j, j < 4 → afS k.f (csS k d a b 5 1) (4 * x + j) = ((cont k d x).drop (8 * j)).take 8 := fun j hj => by
    unfold csS at hne ⊢
    split at hne
    · exact absurd rfl hne
    · rename_i hc
      rw [if_neg hc, afS_app, afS_no fun s ns hs z => ?_]
      · exact afS_du (cf := cont k d) hj mem_nd hx
      · obtain ⟨h2, _⟩ := tl_mem hs
        omega
  unfold NT.blk
  have e0 := e 0 (by decide)
  rw [Nat.add_zero] at e0
  rw [e0, e 1 (by decide), e 2 (by decide), e 3 (by decide)]
  exact cut32 m2
end

end K24

set_option Elab.async false
set_option linter.all false
set_option maxRecDepth 100000
set_option maxHeartbeats 4000000
namespace K24
open PySem PySem.Spec PyProof.Rows L2 Evl LK LT LG LS LQ LX LO LN LP LH LV LZ LW StX LD
open ND (DK Dk St)
open NS (fr fr1 cv hv headV used In flds)
open NT (Cc Sk Sd ST SP Fm cont newB fre setM dropD TxT TxH tno memL Txt hfl sfl)
/-! ### the law -/
def spLib : Sp := fun vs H Q _ => ∃ (a b : Addr) (ns : List Int), vs = [.ref a, .ref b] ∧ H a = some (.lst (ns.map V.int)) ∧ H b = some (.lst (ns.map V.int)) ∧ ns.length = 32 ∧ RetV (.bl true) H Q

section
variable {P : Program} {w : World} {K : PySem.W.Frag} {mg : Str → Option Value} {base : Heap} {c : Cc}
theorem ok_lib {f : Addr} {fd : FuncData} (F : Fun K "_law_is_block" "_law_is_block" sLib f fd) (T : Txt mg) : FnOk P w K mg base CX0 1 f fd ["told", "due"] spLib := by
  refine F.ok scLib (fun vs H Q E h => ?_) (fun cdv A outer s H vs Q E hr h => ?_)
  · obtain ⟨a, b, ns, rfl, _⟩ := h
    rfl
  · obtain ⟨a, b, ns, rfl, ha, hb, hl, q⟩ := h
    refine ⟨_, (pss_cons (ps_if (PW.pt (pw_or (pt_not (pt_val (pe_callB call_isi (by rfl) T.isinstance (by decide +kernel) (pa_cons (pv 0) (pa_cons (pe_bltn (v := .ty "list") (u := .type "list") (by rfl) T.list (by decide +kernel) rfl) pa_nil))))) (pw_or1 (pt_cmpR op_ne (pe_callB call_len_seq (by rfl) T.len (by decide +kernel) (pa_cons (pv 0) pa_nil)) pe_int (nomark _))))) (pss_one (ps_ret pe_bl)) pss_nil)
      (pss_cons (ps_for PassesOwn.never rfl (pi_range1 (by rfl) T.range (pa_cons pe_int pa_nil)) (pg_name (i := 2) scLib.nd rfl (Or.inl rfl)) (pss_one (ps_if (PW.pt (pw_or (pt_not (pt_val (pe_callB call_isi (by rfl) T.isinstance (by decide +kernel) (pa_cons (pe_ix ix_list (pv 0) (pv 2) (fun _ _ => rfl)) (pa_cons (pe_bltn (v := .ty "int") (u := .type "int") (by rfl) T.int (by decide +kernel) rfl) pa_nil))))) (pw_or (pt_val (pe_callB call_isi (by rfl) T.isinstance (by decide +kernel) (pa_cons (pe_ix ix_list (pv 0) (pv 2) (fun _ _ => rfl)) (pa_cons (pe_bltn (v := .ty "bool") (u := .type "bool") (by rfl) T.bool (by decide +kernel) rfl) pa_nil)))) (pw_or1 (pt_cmpR op_ne (pe_ix ix_list (pv 0) (pv 2) (fun _ _ => rfl)) (pe_ix ix_list (pv 1) (pv 2) (fun _ _ => rfl)) (nomark _)))))) (pss_one (ps_ret pe_bl)) pss_nil)))
      (pss_one (ps_ret pe_bl)))), ?_⟩
    refine q_when (b := false) (et_is (et_or (et_not (et_B (ev_isi (b := true) (ev_var rfl) ev_c (fun B c => .base (.lst (c _ _ ha))) (kit_ty rfl)))) (fun _ => et_test (ev_op (ev_is (ev_lenL (ev_var rfl) ha) (w := .int 32) (by rw [List.length_map, hl]; rfl)) ev_c (rv_ne rfl)))) rfl) (fun h => by cases h) fun _ H1 e1 => ?_
    refine q_forR1 (n := 32) (ea_cons ev_c ea_nil) ⟨by decide, by decide⟩ (fun i σ' B => ∃ y, σ' = [some (.ref a), some (.ref b), y] ∧ Ex H B) (fun B eB => ⟨none, rfl, e1.trans eB⟩) ?_ ?_
    · rintro i σ' B hi ⟨y, rfl, eB⟩
      have hi' : i < ns.length := by omega
      have X : Ev (tOp (rIxL K) (tVar 0) (tVar 2)) (List.set [some (.ref a), some (.ref b), y] 2 (some (.int (i : Int)))) B (.int ns[i]) := ev_op (ev_var rfl) (ev_var rfl) (rv_ixL (sq_of (eB _ _ ha)) (atI_nat (by rw [List.getElem?_map, List.getElem?_eq_getElem hi']; rfl)))
      have Y : Ev (tOp (rIxL K) (tVar 1) (tVar 2)) (List.set [some (.ref a), some (.ref b), y] 2 (some (.int (i : Int)))) B (.int ns[i]) := ev_op (ev_var rfl) (ev_var rfl) (rv_ixL (sq_of (eB _ _ hb)) (atI_nat (by rw [List.getElem?_map, List.getElem?_eq_getElem hi']; rfl)))
      exact s_when (b := false) (et_is (et_or (et_not (et_B (ev_isi (b := true) X ev_c (fun _ _ => .base (.int _)) (kit_ty rfl)))) (fun _ => et_or (et_B (ev_isi (b := false) X ev_c (fun _ _ => .base (.int _)) (kit_ty rfl))) (fun _ => et_test (ev_op X Y (rv_ne rfl))))) (by simp)) (fun h => by cases h) fun _ B2 b2 => ⟨_, rfl, eB.trans b2⟩
    · rintro σ' B ⟨y, rfl, eB⟩
      exact s_ret ev_c fun B2 b2 => q B2 (eB.trans b2)
end
theorem ev_lib {σ : L2.St} {H : Hp} {ta t1 td : TE} {p b C dx : Addr} {fs : List (Str × V)} {m : Str} {sp : Sp} {E : XK} {xs : List V} {ns : List Int} (ha : Ev ta σ H (.ref p)) (hi : H p = some (.ins C dx fs)) (hl : fs.lookup m = none) (ht : EvU t1 σ H xs) (k : ∀ t H1, H1 t = some (.tup xs) → Ex H H1 → ∀ Q : VK, (∀ l H2, Ex H1 H2 → H2 l = some (.lst (ns.map V.int)) → Q (.ref l) H2) → sp [.ref p, .ref t] H1 Q E) (hd : ∀ H1, Ex H H1 → Ev td σ H1 (.ref b)) (hb : H b = some (.lst (ns.map V.int))) (h32 : ns.length = 32) : Ev (tCall spLib [] E0 (tCons (tMeth C m sp [] E ta (tCons t1 tNil)) (tCons td tNil))) σ H (.bl true) := fun H1 e Q q =>
  ha H1 e _ fun H2 e2 => ⟨p, dx, fs, rfl, (e.trans e2) _ _ hi, hl, ht H2 (e.trans e2) _ fun t H3 _ e3 h3 => k t H3 h3 ((e.trans e2).trans e3) _ fun l H4 e4 h4 => hd H4 (((e.trans e2).trans e3).trans e4) H4 (Ex.refl _) _ fun H5 e5 => ⟨l, b, ns, rfl, e5 _ _ h4, ((((e.trans e2).trans e3).trans e4).trans e5) _ _ hb, h32, fun H6 e6 => q H6 ((((e2.trans e3).trans e4).trans e5).trans e6)⟩⟩


section
variable {σ : L2.St} {H : Hp} {ta te tt t1 t2 : TE} {tz : TS} {D : Ends} {sp : Sp} {E : XK} {C p dx : Addr} {m : Str} {fs : List (Str × V)} {us xs ys : List V} {z v1 : V} {Q : VK}
theorem ev_methU (ha : Ev ta σ H (.ref p)) (hi : H p = some (.ins C dx fs)) (hl : fs.lookup m = none) (ht : EvU tt σ H us) (hs : ∀ x H1, H1 x = some (.tup us) → Ex H H1 → SpV sp [.ref p, .ref x] H1 z) : Ev (tMeth C m sp [] E ta (tCons tt tNil)) σ H z := fun H1 e Q q =>
  ha H1 e _ fun H2 e2 => ⟨p, dx, fs, rfl, (e.trans e2) _ _ hi, hl, ht H2 (e.trans e2) _ fun x H3 _ e3 h3 => hs x H3 h3 ((e.trans e2).trans e3) H3 (Ex.refl _) Q (fun H4 e4 => q H4 ((e2.trans e3).trans e4)) E⟩
theorem el_methU (ha : Ev ta σ H (.ref p)) (hi : H p = some (.ins C dx fs)) (hl : fs.lookup m = none) (ht : EvU tt σ H us) (hs : ∀ x H1, H1 x = some (.tup us) → Ex H H1 → SpL sp [.ref p, .ref x] H1 xs) : EvL (tMeth C m sp [] E ta (tCons tt tNil)) σ H xs := fun H1 e Q q =>
  ha H1 e _ fun H2 e2 => ⟨p, dx, fs, rfl, (e.trans e2) _ _ hi, hl, ht H2 (e.trans e2) _ fun x H3 _ e3 h3 => hs x H3 h3 ((e.trans e2).trans e3) H3 (Ex.refl _) Q (fun l H4 hl e4 h4 => q l H4 (fresh_back (e2.trans e3) hl) ((e2.trans e3).trans e4) h4) E⟩
theorem te_tup2L (h1 : Ev t1 σ H v1) (h2 : EvL t2 σ H ys) {B : Hp} (b : Ex H B) (k : ∀ p l H1, B p = none → B l = none → Ex B H1 → H1 p = some (.tup [v1, .ref l]) → H1 l = some (.lst ys) → Q (.ref p) H1) : tTup (tCons t1 (tCons t2 tNil)) σ B Q :=
  h1 B b _ fun H1 e1 => h2 H1 (b.trans e1) _ fun l H3 hl e3 hx => ⟨by show 2 ≤ sizeLine; decide, fun p hp => k p l _ (fresh_back (e1.trans e3) hp) (fresh_back e1 hl) ((e1.trans e3).trans (Ex.new hp)) upd_same ((Ex.new hp) _ _ hx)⟩
theorem q_m2LD (ha : Ev ta σ H (.ref p)) (hi : H p = some (.ins C dx fs)) (hl : fs.lookup m = none) (h1 : Ev t1 σ H v1) (h3 : EvL t2 σ H xs) (k : ∀ l H1, H l = none → Ex H H1 → H1 l = some (.lst xs) → sp [.ref p, v1, .ref l] H1 (fun _ H2 => tz D σ H2) E) : tSeq (tDrop (tMeth C m sp [] E ta (tCons t1 (tCons t2 tNil)))) tz D σ H := s_m2LD (D := { D with nx := tz D }) ha hi hl h1 h3 k
theorem q_runM (ha : Ev ta σ H (.ref p)) (hi : H p = some (.ins C dx fs)) (hl : fs.lookup m = none) {tA : TA} {vs : List V} {i : Nat} (ht : EvA tA σ H vs) (k : ∀ H1, Ex H H1 → sp (.ref p :: vs) H1 (fun v H2 => tz D (σ.set i (some v)) H2) E) : tSeq (tAsg (tMeth C m sp [] E ta tA) (gName i)) tz D σ H := LO.m_run (Q := fun v H2 => tz D (σ.set i (some v)) H2) ha hi hl ht k
def EvM (t : TE) (σ : L2.St) (H : Hp) (R : V → Hp → Prop) : Prop := ∀ B, Ex H B → ∀ Q : VK, (∀ v B', Ex B B' → R v B' → Q v B') → t σ B Q
theorem ev_opMM {r : R2} {R1 R2' : V → Hp → Prop} (h1 : EvM t1 σ H R1) (m1 : ∀ v B B', Ex B B' → R1 v B → R1 v B') (h2 : ∀ B, Ex H B → EvM t2 σ B R2') (hr : ∀ v1 v2 B, Ex H B → R1 v1 B → R2' v2 B → RV r v1 v2 B z) : Ev (tOp r t1 t2) σ H z := fun H1 e Q q => h1 H1 e _ fun v H2 e2 hv => h2 H2 (e.trans e2) H2 (Ex.refl _) _ fun v2 H3 e3 hv2 => hr v v2 H3 ((e.trans e2).trans e3) (m1 _ _ _ e3 hv) hv2 H3 (Ex.refl _) Q fun H4 e4 => q H4 ((e2.trans e3).trans e4)
theorem em_ev {v : V} (h : Ev t1 σ H v) : EvM t1 σ H (fun x _ => x = v) := fun B b Q q => h B b _ fun B' e => q _ _ e rfl
theorem em_el (h : EvL t1 σ H xs) : EvM t1 σ H (fun x B => ∃ p, x = .ref p ∧ B p = some (.lst xs)) := fun B b Q q => h B b _ fun p B' _ e hx => q _ _ e ⟨p, rfl, hx⟩
end
theorem SL.dp {K : PySem.W.Frag} {N : Addr → Prop} {B : Hp} {xs : List V} {ss : List Stp} {l : Addr} (h : SL N B xs ss) (hl : B l = some (.lst xs)) : Dp K B (.ref l) (.list (ss.map stD)) := .lst (sq_of hl) (dp_of' h.n fun i v s hv hs => by
  obtain ⟨t, h1, h2⟩ := h.a i s hs
  rw [h1] at hv
  cases hv
  cases s with
  | fl => exact .tup (st_of h2) (.cons (.str _) .nil)
  | wr sn ns =>
    obtain ⟨l, _, h3, h4⟩ := h2
    exact .tup (st_of h3) (.cons (.str _) (.cons (.int _) (.cons (.lst (sq_of h4) (dp_ints _)) .nil))))
theorem sh_SL (ss : List Stp) : Sh 3 (.list (ss.map stD)) := sh_lst fun d hd => by
  obtain ⟨s, _, rfl⟩ := List.mem_map.mp hd
  exact sh_stD s
section
variable {K : PySem.W.Frag} {c : Cc} {G H : Hp} {q : Addr} {k : Sk} {d : Sd} {σ : L2.St} {ta : TE} {E : XK} {f : Nat → List Int}
/-- lasting() -/
theorem img_of {B H0 : Hp} {L : Addr} {ys : List V} {f : Nat → List Int} (h2 : B L = some (.lst ys)) (hn : ys.length = 4 * 96) (hr : ∀ i y, ys[i]? = some y → ND.Rl H0 f i (ys.take i) y B) : Img B L f := ⟨ys, h2, hn, fun i v hv => by
  obtain ⟨l, a1, a2, a3, _⟩ := hr i v hv
  refine ⟨l, a1, fun z => ?_, a3⟩
  rw [z, h2] at a3
  have a3 := Option.some.inj a3
  injection a3 with a3
  have hm := List.mem_of_getElem? hv
  rw [a1, a3] at hm
  obtain ⟨x, _, hx⟩ := List.mem_map.mp hm
  cases hx⟩
theorem em_last (S : ST c G H q k d) (kn : k.n = 96) (ha : ∀ B, Ex H B → Ev ta σ B (.ref k.dp)) : EvM (tMeth c.D "lasting" (ND.spImgs c.D Dk.kept) [] E ta tNil) σ H (fun v B => ∃ L, v = .ref L ∧ Img B L k.f) := fun B b Q q' => by
  obtain ⟨dd, hd⟩ := S.dk.o
  exact LO.m_run (ha B b) (b _ _ hd) (ND.d_no ⟨by decide +kernel, by decide +kernel, by decide +kernel, by decide +kernel, by decide +kernel, by decide +kernel⟩) ea_nil fun B1 b1 => ⟨G, k.dp, k.ka, k.sa, k.wa, k.n, _, rfl, S.dk.ex (b.trans b1), fun L ys B2 hL b2 h2 hn hrr => q' _ _ (b1.trans b2) ⟨L, rfl, img_of h2 (by rw [hn, kn]) hrr⟩⟩
theorem em_wait (S : ST c G H q k d) (ha : ∀ B, Ex H B → Ev ta σ B (.ref k.dp)) : EvM (tMeth c.D "waiting" (ND.spWait c.D) [] E ta tNil) σ H (fun v B => ∃ L, v = .ref L ∧ B L = some (.lst [])) := fun B b Q q' => by
  obtain ⟨dd, hd⟩ := S.dk.o
  exact LO.m_run (ha B b) (b _ _ hd) (ND.d_no ⟨by decide +kernel, by decide +kernel, by decide +kernel, by decide +kernel, by decide +kernel, by decide +kernel⟩) ea_nil fun B1 b1 => ⟨G, k.dp, k.ka, k.sa, k.wa, k.n, _, rfl, S.dk.ex (b.trans b1), fun L ys B2 hL b2 h2 hn _ => q' _ _ (b1.trans b2) ⟨L, rfl, by rw [List.length_eq_zero_iff.mp hn] at h2; exact h2⟩⟩
theorem img_ne {B : Hp} {v1 v2 : V} {f : Nat → List Int} (h1 : ∃ L, v1 = .ref L ∧ Img B L f) (h2 : ∃ L, v2 = .ref L ∧ Img B L f) : RV (rNeD K) v1 v2 B (.bl false) := by
  obtain ⟨L, rfl, i1⟩ := h1
  obtain ⟨L', rfl, i2⟩ := h2
  exact rv_neD i1.dp i2.dp (sh_dLF _ _) (by decide)
theorem nil_ne {B : Hp} {v1 v2 : V} (h1 : ∃ L, v1 = .ref L ∧ B L = some (.lst [])) (h2 : ∃ L, v2 = .ref L ∧ B L = some (.lst [])) : RV (rNeD K) v1 v2 B (.bl false) := by
  obtain ⟨L, rfl, i1⟩ := h1
  obtain ⟨L', rfl, i2⟩ := h2
  exact rv_neD (d := .list []) (.lst (sq_of i1) .nil) (.lst (sq_of i2) .nil) (sh_lst (n := 0) fun d hd => by cases hd) (by decide)
/-- waiting() != [] -/
theorem ev_wait {tb : TE} (S : ST c G H q k d) (ha : ∀ B, Ex H B → Ev ta σ B (.ref k.dp)) : Ev (tOp (rNeD K) (tMeth c.D "waiting" (ND.spWait c.D) [] E ta tNil) (tLst tNil)) σ H (.bl false) := ev_opMM (em_wait S ha) (fun v B B' e ⟨L, a, b⟩ => ⟨L, a, e _ _ b⟩) (fun B _ => em_el (el_lst ea_nil (by decide))) fun _ _ B _ h1 h2 => nil_ne h1 h2
/-- lasting() != image -/
theorem ev_last {tb : TE} {im : Addr} (S : ST c G H q k d) (kn : k.n = 96) (ha : ∀ B, Ex H B → Ev ta σ B (.ref k.dp)) (hb : ∀ B, Ex H B → Ev tb σ B (.ref im)) (hi : Img H im k.f) : Ev (tOp (rNeD K) (tMeth c.D "lasting" (ND.spImgs c.D Dk.kept) [] E ta tNil) tb) σ H (.bl false) := ev_opMM (em_last S kn ha) (fun v B B' e ⟨L, a, b⟩ => ⟨L, a, b.gx (Gx.ex e)⟩) (fun B e => em_ev (hb B e)) fun v1 v2 B e h1 h2 => img_ne h1 ⟨im, h2, hi.gx (Gx.ex e)⟩
end

end K24

set_option Elab.async false
set_option linter.all false
set_option maxRecDepth 100000
set_option maxHeartbeats 4000000
namespace K24
open PySem PySem.Spec PyProof.Rows L2 Evl LK LT LG LS LQ LX LO LN LP LH LV LZ LW StX LD
open ND (DK Dk St)
open NS (fr fr1 cv hv headV used In flds)
open NT (Cc Sk Sd ST SP Fm cont newB fre setM dropD TxT TxH tno memL Txt hfl sfl)
/-- the uses of a new store -/
theorem CsK.wi {cs : List Int} (h : CsK cs) : WI (NS.pos cs) (⟨0, cs, fun _ => none⟩, []) 0 := by
  refine ⟨h.n, rfl, h.p, fun x => by have := h.u x; show cv cs x ≤ 2 + ((0 : Nat) : Int); omega, fun x hx => h.o x (by omega), (fun i hi => by cases hi), (fun i ws hw => by cases hw), ?_, ?_, Nat.le_refl _⟩
  · have hv0 : ∀ x, 30 ≤ x → hv (NS.pos cs) x = false := fun x hx => by
      unfold NS.hv NS.pos
      rw [List.getD_eq_getElem?_getD, List.getElem?_map]
      cases e : cs[x]? with
      | none => rfl
      | some v =>
        have := h.z x hx
        unfold NS.cv at this
        rw [List.getD_eq_getElem?_getD, e] at this
        have this : v = 0 := this
        rw [this]
        rfl
    have := nd_sub (l := (List.range 66).map (30 + ·)) (m := fr cs (NS.pos cs) false) (List.nodup_iff_pairwise_ne.mpr (by
      rw [List.pairwise_map]
      exact (List.nodup_iff_pairwise_ne.mp List.nodup_range).imp fun {a b} n z => n (by omega))) fun x hx => by
      obtain ⟨i, hi, rfl⟩ := List.mem_map.mp hx
      have hi := List.mem_range.mp hi
      refine List.mem_filter.mpr ⟨List.mem_range.mpr (by rw [h.n]; omega), ?_⟩
      unfold NS.fr1
      rw [h.z _ (by omega), hv0 _ (by omega)]
      rfl
    rw [List.length_map, List.length_range] at this
    exact this
  · show ((List.range 96).filter fun i => (none : Option (List Int)).isSome).length ≤ 0
    rw [List.filter_eq_nil_iff.mpr fun a _ => by simp]
    exact Nat.le_refl 0
theorem er_NL {K : PySem.W.Frag} {σ : L2.St} {H : Hp} {R : Rel} {te tl : TE} {vs : List Nat} {j : Nat} {ys : List V} (h : EvL tl σ H ys) (hz : ys.length ≤ 40000) (hw : ∀ x, wipe ((wipe σ vs).set j (some x)) vs = wipe σ vs) (mon : Mon R)
    (he : ∀ (i : Nat) (x : V) D H1, H D = none → Ex H H1 → H1 D ≠ none → ys[i]? = some x → ∀ xs : List V, xs.length = i → (∀ j y, xs[j]? = some y → R j (xs.take j) y (but D H1)) → ∀ Q : VK, (∀ y H3, Ex H1 H3 → R i xs y (but D H3) → Q y H3) → te ((wipe σ vs).set j (some x)) H1 Q) :
    EvR (tLc (iList K tl) (gName j) tYes te vs) σ H ys.length R := fun H0 e Q q => h H0 e _ fun a H1 ha e1 h1 => ⟨a, rfl, ⟨ys, sq_of h1⟩, fun Dl hD =>
  lc_list (xs := ys) (Cr H1 R Dl) ⟨hD, Ex.new hD, [], upd_same, rfl, fun j y hy => by simp at hy⟩ (fun i H' _ p => sq_of (p.2.1 _ _ h1))
    (fun i x H' hi p => ⟨hw x, cr_turn mon p (by have := (List.getElem?_eq_some_iff.mp hi).1; omega) (fun h1 xs h2 h3 => he i x Dl H' (fresh_back (e.trans e1) hD) ((e.trans e1).trans p.2.1) h1 hi xs h2 h3)⟩)
    (fun H' ⟨p1, p2, xs, p3, p4, p5⟩ => q Dl xs H' (fresh_back e1 p1) (e1.trans p2) p3 p4 fun i y hy => mon _ _ _ _ _ but_ex (p5 i y hy))⟩
theorem nums_eq {cs : List Int} (h96 : cs.length = 96) (h5 : ∀ x, x < 5 → cv cs x = 1) : List.replicate (Int.toNat 5) (V.int 1) ++ given ((96 : Int) - 5).toNat (fun _ => true) (fun i => .int (cv cs (5 + i))) = cs.map V.int := by
  have e1 : cs = (List.range 96).map (cv cs) := by
    refine List.ext_getElem (by rw [List.length_map, List.length_range, h96]) fun i h1 h2 => ?_
    rw [List.getElem_map, List.getElem_range]
    unfold NS.cv
    rw [List.getD_eq_getElem?_getD, List.getElem?_eq_getElem h1]
    rfl
  have e2 : (List.range 96) = List.range 5 ++ (List.range 91).map (5 + ·) := by decide +kernel
  have e3 : (List.range 5).map (cv cs) = [1, 1, 1, 1, 1] := by
    show [cv cs 0, cv cs 1, cv cs 2, cv cs 3, cv cs 4] = _
    rw [h5 0 (by decide), h5 1 (by decide), h5 2 (by decide), h5 3 (by decide), h5 4 (by decide)]
  have e4 : cs.map V.int = ((List.range 5 ++ (List.range 91).map (5 + ·)).map (cv cs)).map V.int := by
    rw [← e2]
    exact congrArg (List.map V.int) e1
  rw [e4, List.map_append, List.map_append, e3]
  unfold given
  rw [List.map_map, List.map_map]
  rw [List.filter_eq_self.mpr fun a _ => rfl]
  rfl
def spLaw (K : PySem.W.Frag) (Pw Pm : Addr) : Sp := fun vs H Q _ => ∃ (a : Addr) (ns : List Int), vs = [.ref a] ∧ SqL K H a (ns.map V.int) ∧ ns.length ≤ 63 ∧ Tab H Pw ∧ Tab H Pm ∧ ∀ H', Tab H' Pw → Tab H' Pm → Q (.bl true) H'
def CtX (H0 : Hp) (cf : Nat → List Int) (ls : List Nat) : LP.Rel := fun i _ y B => ∃ (t l : Addr) (n : Nat), y = .ref t ∧ ls[i]? = some n ∧ B t = some (.tup [.int (n : Int), .ref l]) ∧ B l = some (.lst ((cf n).map V.int)) ∧ H0 l = none
theorem tab_gx {G G' : Hp} {p : Addr} (h : Tab G p) (x : Gx G G') : Tab G' p := x p _ h fun _ _ _ z => by cases z
section
variable {P : Program} {w : World} {K : PySem.W.Frag} {mg : Str → Option Value} {base : Heap} {c : Cc} {CN CO Pm Pw : Addr}
theorem ok_law {f fT fA fL fW f1 f2 f3 f4 f5 f6 f7 f8 f9 m1 m2 m3 m4 m5 : Addr} {fd fdT fdA fdL fdW fd1 fd2 fd3 fd4 fd5 fd6 fd7 fd8 fd9 fdm1 fdm2 fdm3 fdm4 fdm5 : FuncData} (F : Fun K "law" "law" sLaw f fd)
    (FT : Fun K "_law_tape" "_law_tape" sTape fT fdT) (GT : FnOk P w K mg base CX0 1 fT fdT ["script"] (spTape K)) (bT : Binds K fdT ["script"] []) (gT : mg "_law_tape" = some (.ref fT))
    (FA : Fun K "_law_at" "_law_at" sAt fA fdA) (GA : FnOk P w K mg base CX0 1 fA fdA ["tape", "k"] (spCel K)) (bA : Binds K fdA ["tape", "k"] []) (gA : mg "_law_at" = some (.ref fA))
    (FLst : Fun K "_law_store" "_law_store" sLst fL fdL) (GLst : FnOk P w K mg base CX0 6 fL fdL ["tape", "generation"] (spLst24 c Pw)) (bLst : Binds K fdL ["tape", "generation"] []) (gLst : mg "_law_store" = some (.ref fL))
    (FLwk : Fun K "_law_work" "_law_work" sLwk fW fdW) (GLwk : FnOk P w K mg base CX0 8 fW fdW ["store", "tape", "start", "many"] (spLwk c Pw)) (bLwk : Binds K fdW ["store", "tape", "start", "many"] []) (gLwk : mg "_law_work" = some (.ref fW))
    (FLdu : Fun K "_law_due" "_law_due" sLdu f1 fd1) (GLdu : FnOk P w K mg base CX0 1 f1 fd1 ["store", "contents", "generation", "mark"] (spLdu c)) (bLdu : Binds K fd1 ["store", "contents", "generation", "mark"] []) (gLdu : mg "_law_due" = some (.ref f1))
    (FCst : Fun K "commit_steps" "commit_steps" sCst f2 fd2) (GCst : FnOk P w K mg base CX0 7 f2 fd2 ["store"] (spCst c Pm)) (bCst : Binds K fd2 ["store"] []) (gCst : mg "commit_steps" = some (.ref f2))
    (FCom : Fun K "commit" "commit" sCom f3 fd3) (GCom : FnOk P w K mg base CX0 8 f3 fd3 ["store"] (spCom c Pm Pw)) (bCom : Binds K fd3 ["store"] []) (gCom : mg "commit" = some (.ref f3))
    (FLaf : Fun K "_law_after" "_law_after" sLaf f4 fd4) (GLaf : FnOk P w K mg base CX0 1 f4 fd4 ["image", "steps"] spLaf) (bLaf : Binds K fd4 ["image", "steps"] []) (gLaf : mg "_law_after" = some (.ref f4))
    (FLse : Fun K "_law_settled" "_law_settled" sLse f5 fd5) (GLse : FnOk P w K mg base CX0 6 f5 fd5 ["store", "numbers"] (spLse c)) (bLse : Binds K fd5 ["store", "numbers"] []) (gLse : mg "_law_settled" = some (.ref f5))
    (FLib : Fun K "_law_is_block" "_law_is_block" sLib f6 fd6) (GLib : FnOk P w K mg base CX0 1 f6 fd6 ["told", "due"] spLib) (bLib : Binds K fd6 ["told", "due"] []) (gLib : mg "_law_is_block" = some (.ref f6))
    (Gwrite : FnOk P w K mg base (L2.CX P w) 3 f7 fd7 ["self", "sector", "words"] (ND.spWrite c.D CN CO Pw)) (bwrite : Binds K fd7 ["self", "sector", "words"] []) (mwrite : Meth K c.D "write" f7)
    (Gflush : FnOk P w K mg base (L2.CX P w) 2 f8 fd8 ["self"] (ND.spFlush c.D CO)) (bflush : Binds K fd8 ["self"] []) (mflush : Meth K c.D "flush" f8)
    (Guses : FnOk P w K mg base (L2.CX P w) 4 f9 fd9 ["self", "pointer"] (NT.spUses c CN)) (buses : Binds K fd9 ["self", "pointer"] []) (muses : Meth K c.T "uses" f9)
    (Gread : FnOk P w K mg base (L2.CX P w) 5 m1 fdm1 ["self", "pointer"] (NT.spRead c CN)) (bread : Binds K fdm1 ["self", "pointer"] []) (mread : Meth K c.T "read" m1)
    (Gnew_blocks : FnOk P w K mg base CX0 1 m2 fdm2 ["self"] (NT.spNb c)) (bnew_blocks : Binds K fdm2 ["self"] []) (mnew_blocks : Meth K c.T "new_blocks" m2)
    (Glasting : FnOk P w K mg base CX0 1 m3 fdm3 ["self"] (ND.spImgs c.D Dk.kept)) (blasting : Binds K fdm3 ["self"] []) (mlasting : Meth K c.D "lasting" m3)
    (Gwaiting : FnOk P w K mg base CX0 1 m4 fdm4 ["self"] (ND.spWait c.D)) (bwaiting : Binds K fdm4 ["self"] []) (mwaiting : Meth K c.D "waiting" m4)
    (Guse_table : FnOk P w K mg base CX0 1 m5 fdm5 ["self", "pointer"] (NT.spUt c)) (buse_table : Binds K fdm5 ["self", "pointer"] []) (muse_table : Meth K c.T "use_table" m5)
    {m6 : Addr} {fdm6 : FuncData} (Ggeneration : FnOk P w K mg base CX0 1 m6 fdm6 ["self"] (NT.spGen c)) (bgeneration : Binds K fdm6 ["self"] []) (mgeneration : Meth K c.T "generation" m6)
    (T : Txt mg) (TT : TxT mg K c.T) (TH : TxH mg K c.H) (TD : ND.Txt mg K c.D) : FnOk P w K mg base CX0 9 f fd ["script"] (spLaw K Pw Pm) := by
  refine F.ok (k := 8) scLaw (fun vs H Q E h => ?_) (fun cdv A outer s0 H vs Q E hr h => ?_)
  · obtain ⟨a, ns, rfl, _⟩ := h
    rfl
  · obtain ⟨a, ns, rfl, hS, h63, hTw, hTm, qq⟩ := h
    refine ⟨_, (pss_cons (ps_set (i := 1) scLaw.nd rfl (Or.inl rfl) (pe_call GT (hr.mono (by decide)) (by rfl) gT FT.kp bT .nil pass0 (pa_cons (pv 0) pa_nil)))
      (pss_cons (ps_set (i := 2) scLaw.nd rfl (Or.inl rfl) (pe_op op_add pe_int (pe_op op_mod (pe_call GA (hr.mono (by decide)) (by rfl) gA FA.kp bA .nil pass0 (pa_cons (pv 1) (pa_cons pe_int pa_nil))) pe_int)))
      (pss_cons (ps_if (pt_cmpR op_eq (pe_op op_mod (pe_op op_fdiv (pe_call GA (hr.mono (by decide)) (by rfl) gA FA.kp bA .nil pass0 (pa_cons (pv 1) (pa_cons pe_int pa_nil))) pe_int) pe_int) pe_int (nomark _)) (pss_one (ps_set (i := 2) scLaw.nd rfl (Or.inl rfl) (pe_op op_add (pv 2) (pe_op op_pow pe_int pe_int)))) pss_nil)
      (pss_cons (ps_set (i := 3) scLaw.nd rfl (Or.inr rfl) (pe_call GLst (hr.mono (by decide)) (by rfl) gLst FLst.kp bLst .nil pass0 (pa_cons (pv 1) (pa_cons (pv 2) pa_nil))))
      (pss_cons (ps_set (i := 4) scLaw.nd rfl (Or.inl rfl) pe_int)
      (pss_cons (ps_if (pt_cmpR op_eq (pe_op op_mod (pe_call GA (hr.mono (by decide)) (by rfl) gA FA.kp bA .nil pass0 (pa_cons (pv 1) (pa_cons pe_int pa_nil))) pe_int) pe_int (nomark _)) (pss_cons (ps_expr (pe_meth (pe_fld (pv 3) rfl) TD.cl mwrite Gwrite (hr.mono (by decide)) bwrite .nil passL (pa_cons (pe_op op_add pe_int (pe_op op_mod (pe_op op_fdiv (pe_call GA (hr.mono (by decide)) (by rfl) gA FA.kp bA .nil pass0 (pa_cons (pv 1) (pa_cons pe_int pa_nil))) pe_int) pe_int)) (pa_cons (pe_lst (pa_cons pe_int (pa_cons pe_int (pa_cons pe_int (pa_cons pe_int (pa_cons pe_int (pa_cons pe_int (pa_cons pe_int (pa_cons (pv 2) pa_nil))))))))) pa_nil))))
      (pss_cons (ps_expr (pe_meth0 (pe_fld (pv 3) rfl) TD.cl mflush Gflush (hr.mono (by decide)) bflush .nil passL))
      (pss_one (ps_set (i := 4) scLaw.nd rfl (Or.inl rfl) (pv 2))))) pss_nil)
      (pss_cons (ps_set (i := 5) scLaw.nd rfl (Or.inl rfl) (pe_op op_mod (pe_call GA (hr.mono (by decide)) (by rfl) gA FA.kp bA .nil pass0 (pa_cons (pv 1) (pa_cons pe_int pa_nil))) pe_int))
      (pss_cons (ps_if (pt_cmpR op_eq (pe_op op_mod (pe_op op_fdiv (pe_call GA (hr.mono (by decide)) (by rfl) gA FA.kp bA .nil pass0 (pa_cons (pv 1) (pa_cons pe_int pa_nil))) pe_int) pe_int) pe_int (nomark _)) (pss_one (ps_set (i := 5) scLaw.nd rfl (Or.inl rfl) pe_int)) pss_nil)
      (pss_cons (ps_if (pt_cmpR op_eq (pe_op op_mod (pe_op op_fdiv (pe_call GA (hr.mono (by decide)) (by rfl) gA FA.kp bA .nil pass0 (pa_cons (pv 1) (pa_cons pe_int pa_nil))) pe_int) pe_int) pe_int (nomark _)) (pss_one (ps_set (i := 5) scLaw.nd rfl (Or.inl rfl) pe_int)) pss_nil)
      (pss_cons (ps_set (i := 6) scLaw.nd rfl (Or.inl rfl) (pe_call GLwk (hr.mono (by decide)) (by rfl) gLwk FLwk.kp bLwk .nil pass0 (pa_cons (pv 3) (pa_cons (pv 1) (pa_cons pe_int (pa_cons (pv 5) pa_nil))))))
      (pss_cons (ps_if (pt_cmpR op_gt (pe_callB call_len_seq (by rfl) T.len (by decide +kernel) (pa_cons (pv 6) pa_nil)) pe_int (nomark _)) (pss_one (ps_expr (pe_meth (pv 3) TT.cl muse_table Guse_table (hr.mono (by decide)) buse_table .nil pass0 (pa_cons (pe_ix ix_list (pv 6) (pe_op op_mod (pe_op op_fdiv (pe_call GA (hr.mono (by decide)) (by rfl) gA FA.kp bA .nil pass0 (pa_cons (pv 1) (pa_cons pe_int pa_nil))) pe_int) (pe_callB call_len_seq (by rfl) T.len (by decide +kernel) (pa_cons (pv 6) pa_nil))) (fun _ _ => rfl)) pa_nil)))) pss_nil)
      (pss_cons (ps_set (i := 7) scLaw.nd rfl (Or.inl rfl) (pe_op op_cat (pe_op op_rep (pe_lst (pa_cons pe_int pa_nil)) pe_int) (pe_lc (own := [("k", 15)]) (g := gName 15) (tt := tYes) rfl scLaw.nd (pi_range2 (by rfl) T.range (pa_cons pe_int (pa_cons pe_int pa_nil))) (blkOk_by (own := [("k", 15)]) (N := ["script", "tape", "generation", "store", "mark", "many", "made", "numbers", "contents", "image", "table", "due", "steps", "done", "row", "k"]) (sc := defScope sLaw) (by decide +kernel)) (fun _ _ _ _ _ => pg_name (i := 15) scLaw.nd rfl (Or.inl rfl)) (fun _ _ _ _ _ => pts_nil) (fun _ _ _ _ _ => (pe_meth (pv 3) TT.cl muses Guses (hr.mono (by decide)) buses .nil passL (pa_cons (pe_tup (pa_cons (pv 15) (pa_cons pe_int pa_nil))) pa_nil))))))
      (pss_cons (ps_setLc (i := 8) (own := [("k", 15)]) (g := gName 15) (tt := tYes) rfl scLaw.nd rfl rfl (sw_true rfl rfl rfl (by decide +kernel)) (pi_list (pe_meth0 (pv 3) TT.cl mnew_blocks Gnew_blocks (hr.mono (by decide)) bnew_blocks .nil pass0)) (blkOk_by (own := [("k", 15)]) (N := ["script", "tape", "generation", "store", "mark", "many", "made", "numbers", "contents", "image", "table", "due", "steps", "done", "row", "k"]) (sc := defScope sLaw) (by decide +kernel)) (fun _ _ _ _ _ => pg_name (i := 15) scLaw.nd rfl (Or.inl rfl)) (fun _ _ _ _ _ => pts_nil) (fun _ _ _ _ _ => (pe_tup (pa_cons (pv 15) (pa_cons (pe_meth (pv 3) TT.cl mread Gread (hr.mono (by decide)) bread .nil passL (pa_cons (pe_tup (pa_cons (pv 15) (pa_cons pe_int pa_nil))) pa_nil)) pa_nil)))))
      (pss_cons (ps_set (i := 9) scLaw.nd rfl (Or.inl rfl) (pe_meth0 (pe_fld (pv 3) rfl) TD.cl mlasting Glasting (hr.mono (by decide)) blasting .nil pass0))
      (pss_cons (ps_set (i := 10) scLaw.nd rfl (Or.inl rfl) (pe_fld (pv 3) rfl))
      (pss_cons (ps_set (i := 11) scLaw.nd rfl (Or.inl rfl) (pe_call GLdu (hr.mono (by decide)) (by rfl) gLdu FLdu.kp bLdu .nil pass0 (pa_cons (pv 3) (pa_cons (pv 8) (pa_cons (pv 2) (pa_cons (pv 4) pa_nil))))))
      (pss_cons (ps_set (i := 12) scLaw.nd rfl (Or.inl rfl) (pe_call GCst (hr.mono (by decide)) (by rfl) gCst FCst.kp bCst .nil pass0 (pa_cons (pv 3) pa_nil)))
      (pss_cons (ps_if (PW.pt (pw_or (pt_not (pt_val (pe_callB call_isi (by rfl) T.isinstance (by decide +kernel) (pa_cons (pv 12) (pa_cons (pe_bltn (v := .ty "list") (u := .type "list") (by rfl) T.list (by decide +kernel) rfl) pa_nil))))) (pw_or (pt_cmpR (op_neD hr.units) (pv 12) (pv 11) (nomark _)) (pw_or (pt_cmpR (op_neD hr.units) (pe_meth0 (pe_fld (pv 3) rfl) TD.cl mwaiting Gwaiting (hr.mono (by decide)) bwaiting .nil pass0) (pe_lst pa_nil) (nomark _)) (pw_or1 (pt_cmpR (op_neD hr.units) (pe_meth0 (pe_fld (pv 3) rfl) TD.cl mlasting Glasting (hr.mono (by decide)) blasting .nil pass0) (pv 9) (nomark _))))))) (pss_one (ps_ret pe_bl)) pss_nil)
      (pss_cons (ps_if (pt_cmpR (op_neD hr.units) (pe_meth0 (pv 3) TT.cl mnew_blocks Gnew_blocks (hr.mono (by decide)) bnew_blocks .nil pass0) (pe_lc (own := [("row", 14)]) (g := gName 14) (tt := tYes) rfl scLaw.nd (pi_list (pv 8)) (blkOk_by (own := [("row", 14)]) (N := ["script", "tape", "generation", "store", "mark", "many", "made", "numbers", "contents", "image", "table", "due", "steps", "done", "row", "k"]) (sc := defScope sLaw) (by decide +kernel)) (fun _ _ _ _ _ => pg_name (i := 14) scLaw.nd rfl (Or.inl rfl)) (fun _ _ _ _ _ => pts_nil) (fun _ _ _ _ _ => (pe_ix (r := rIxT K) ix_tup (pv 14) pe_int (fun _ _ => rfl)))) (nomark _)) (pss_one (ps_ret pe_bl)) pss_nil)
      (pss_cons (ps_set (i := 13) scLaw.nd rfl (Or.inl rfl) (pe_call GCom (hr.mono (by decide)) (by rfl) gCom FCom.kp bCom .nil pass0 (pa_cons (pv 3) pa_nil)))
      (pss_cons (ps_if (PW.pt (pw_or (pt_not (pt_val (pe_callB call_isi (by rfl) T.isinstance (by decide +kernel) (pa_cons (pv 13) (pa_cons (pe_bltn (v := .ty "bool") (u := .type "bool") (by rfl) T.bool (by decide +kernel) rfl) pa_nil))))) (pw_or (pt_cmpR op_ne (pv 13) (pe_cmpR op_gt (pe_callB call_len_seq (by rfl) T.len (by decide +kernel) (pa_cons (pv 11) pa_nil)) pe_int (nomark _)) (nomark _)) (pw_or1 (pt_cmpR (op_neD hr.units) (pe_meth0 (pe_fld (pv 3) rfl) TD.cl mwaiting Gwaiting (hr.mono (by decide)) bwaiting .nil pass0) (pe_lst pa_nil) (nomark _)))))) (pss_one (ps_ret pe_bl)) pss_nil)
      (pss_cons (ps_if (pt_cmpR (op_neD hr.units) (pe_meth0 (pe_fld (pv 3) rfl) TD.cl mlasting Glasting (hr.mono (by decide)) blasting .nil pass0) (pe_call GLaf (hr.mono (by decide)) (by rfl) gLaf FLaf.kp bLaf .nil pass0 (pa_cons (pv 9) (pa_cons (pv 11) pa_nil))) (nomark _)) (pss_one (ps_ret pe_bl)) pss_nil)
      (pss_cons (ps_if (pt_not (pt_val (pv 13))) (pss_one (ps_ret (pe_and (pe_cmpR op_eq (pe_meth0 (pv 3) TT.cl mgeneration Ggeneration (hr.mono (by decide)) bgeneration .nil pass0) (pe_op op_add (pv 2) pe_int) (nomark _)) (pe_one (pe_cmpR op_eq (pe_fld (pe_fld (pv 3) rfl) rfl) (pv 2) (nomark _)))))) pss_nil)
      (pss_cons (ps_if (PW.pt (pw_or (pt_cmpR op_ne (pe_meth0 (pv 3) TT.cl mgeneration Ggeneration (hr.mono (by decide)) bgeneration .nil pass0) (pe_op op_add (pv 2) pe_int) (nomark _)) (pw_or (pt_cmpR op_ne (pe_fld (pe_fld (pv 3) rfl) rfl) (pe_op op_add (pv 2) pe_int) (nomark _)) (pw_or1 (pt_cmpR (op_neD hr.units) (pe_fld (pe_fld (pv 3) rfl) rfl) (pv 10) (nomark _)))))) (pss_one (ps_ret pe_bl)) pss_nil)
      (pss_cons (ps_if (PW.pt (pw_or (pt_cmpR (op_neD hr.units) (pe_fld (pv 3) rfl) (pv 10) (nomark _)) (pw_or1 (pt_not (pt_val (pe_call GLse (hr.mono (by decide)) (by rfl) gLse FLse.kp bLse .nil pass0 (pa_cons (pv 3) (pa_cons (pv 7) pa_nil)))))))) (pss_one (ps_ret pe_bl)) pss_nil)
      (pss_cons (ps_for PassesOwn.never rfl (pi_list (pv 8)) (pg_name (i := 14) scLaw.nd rfl (Or.inl rfl)) (pss_one (ps_if (pt_not (pt_val (pe_call GLib (hr.mono (by decide)) (by rfl) gLib FLib.kp bLib .nil pass0 (pa_cons (pe_meth (pv 3) TT.cl mread Gread (hr.mono (by decide)) bread .nil passL (pa_cons (pe_tup (pa_cons (pe_ix ix_tup (pv 14) pe_int (fun _ _ => rfl)) (pa_cons pe_int pa_nil))) pa_nil)) (pa_cons (pe_ix ix_tup (pv 14) pe_int (fun _ _ => rfl)) pa_nil))))) (pss_one (ps_ret pe_bl)) pss_nil)))
      (pss_cons (ps_set (i := 9) scLaw.nd rfl (Or.inl rfl) (pe_meth0 (pe_fld (pv 3) rfl) TD.cl mlasting Glasting (hr.mono (by decide)) blasting .nil pass0))
      (pss_one (ps_ret (pe_and (pe_cmpR op_is_bl (pe_call GCom (hr.mono (by decide)) (by rfl) gCom FCom.kp bCom .nil pass0 (pa_cons (pv 3) pa_nil)) pe_bl (nomark _)) (pe_and (pe_cmpR (op_eqD hr.units) (pe_meth0 (pe_fld (pv 3) rfl) TD.cl mlasting Glasting (hr.mono (by decide)) blasting .nil pass0) (pv 9) (nomark _)) (pe_one (pe_cmpR (op_eqD hr.units) (pe_call GCst (hr.mono (by decide)) (by rfl) gCst FCst.kp bCst .nil pass0 (pa_cons (pv 3) pa_nil)) (pe_lst pa_nil) (nomark _)))))))))))))))))))))))))))))))))), ?_⟩
    have dno : ∀ {n : Nat} {ka sa wa : Addr} {pw : Bool} {bf : Option Nat} {m : Str}, m = "flush" ∨ m = "write" ∨ m = "lasting" → (ND.dfl n ka sa wa pw bf).lookup m = Option.none := fun h => by
      rcases h with rfl | rfl | rfl <;> exact ND.d_no ⟨by decide +kernel, by decide +kernel, by decide +kernel, by decide +kernel, by decide +kernel, by decide +kernel⟩
    have tnu : ∀ {dp hp sp tb m : Addr} {r : Int}, (sfl dp hp sp tb r m).lookup ("use_table" : Str) = Option.none := NT.t_no ⟨by decide +kernel, by decide +kernel, by decide +kernel, by decide +kernel, by decide +kernel, by decide +kernel⟩
    refine q_run (vs := [.ref a]) (ea_cons (ev_var rfl) ea_nil) fun B1 b1 => ⟨a, ns, rfl, ex_l b1 hS, h63, fun ta B2 ts hta0 b2 hta hg _ => ?_⟩
    have cc : ∀ {B : Hp} {z : Int} {σ : L2.St} {tk : TE} (m : Nat), B ta = some (.lst (ts.map V.int)) → z = (m : Int) → σ[1]? = some (some (.ref ta)) → Ev tk σ B (.int z) → Ev (tCall (spCel K) [] E0 (tCons (tVar 1) (tCons tk tNil))) σ B (.int (cellv ts m)) :=
      fun m hb ez h0 hk => ev_call (ea_cons (ev_var h0) (ea_cons hk ea_nil)) (sv_cell (sq_of hb) ez)
    have z0 := Int.emod_nonneg (cellv ts 0) (show (9 : Int) ≠ 0 by decide)
    have z0' := Int.emod_lt_of_pos (cellv ts 0) (show (0 : Int) < 9 by decide)
    obtain ⟨g, hgg⟩ : ∃ g, g = if cellv ts 0 / 9 % 5 = 4 then 1 + cellv ts 0 % 9 + 10 ^ 30 else 1 + cellv ts 0 % 9 := ⟨_, rfl⟩
    have g1 : 1 ≤ g := by rw [hgg]; split <;> omega
    have g2 : g < 2 ^ 120 := by rw [hgg]; split <;> omega
    refine q_asg (v := .int (1 + cellv ts 0 % 9)) (ev_op ev_c (ev_op (cc 0 hta rfl rfl ev_c) ev_c (rv_I (by show (0 : Int) < 9; decide))) rv_I0) fun B3 b3 => ?_
    refine q_ifAsg (b := decide (cellv ts 0 / 9 % 5 = 4)) (v := .int g) (et_is (et_test (ev_op (ev_op (ev_op (cc 0 (b3 _ _ hta) rfl rfl ev_c) ev_c (rv_I ⟨by decide, by decide⟩)) ev_c (rv_I (by show (0 : Int) < 5; decide))) ev_c (rv_eq rfl))) (by simp)) (fun hb => ev_is (ev_op (ev_var rfl) (ev_op ev_c ev_c (rv_I ⟨by decide, by decide, by decide⟩)) rv_I0) (by rw [hgg, if_pos (of_decide_eq_true hb)]; rfl)) (fun hb => by rw [hgg, if_neg (of_decide_eq_false hb)]; rfl) fun B4 b4 => ?_
    have b34 := b3.trans b4
    refine q_run (vs := [.ref ta, .int g]) (ea_cons (ev_var rfl) (ea_cons (ev_var rfl) ea_nil)) fun B5 b5 => ⟨ta, ts, g, rfl, (b34.trans b5) _ _ hta, hg, g1, g2, hTw.mono ((b1.trans b2).trans (b34.trans b5)), fun G B6 q k cs eG S kn kg khs ck hbf hlf ktb kth => ?_⟩
    have e05 := (b1.trans b2).trans (b34.trans b5)
    have gta := eG _ _ ((b34.trans b5) _ _ hta)
    have gtw : Tab G Pw := (hTw.mono e05).mono eG
    have gtm : Tab G Pm := (hTm.mono e05).mono eG
    have I0 : WI k.hs (⟨0, cs, fun _ => none⟩, []) 0 := by rw [khs]; exact ck.wi
    refine q_asg (v := .int 0) ev_c fun B7 b7 => ?_
    have hta7 := (S.ex b7).dk.g _ _ gta
    refine q_ifK (b := decide (cellv ts 4 % 4 = 3)) (fun σ' B => ∃ G k mk, σ' = [some (.ref a), some (.ref ta), some (.int g), some (.ref q), some (.int mk), none, none, none, none, none, none, none, none, none, none, none] ∧ ST c G B q k ⟨0, cs, fun _ => none⟩ ∧ k.n = 96 ∧ k.g = g ∧ k.hs = NS.pos cs ∧ k.tb = k.th ∧ G k.th = some (.tup [.int 5, .int 1]) ∧ G ta = some (.lst (ts.map V.int)) ∧ Tab G Pw ∧ Tab G Pm ∧ (mk < g ↔ ND.markOf k.f < g) ∧ Lf (g + 1) k.f) (et_is (et_test (ev_op (ev_op (cc 4 hta7 rfl rfl ev_c) ev_c (rv_I (by show (0 : Int) < 4; decide))) ev_c (rv_eq rfl))) (by simp)) ?_ (fun hb C1 c1 fin => ?_) (fun hb C1 c1 fin => fin _ _ ⟨G, k, 0, rfl, S.ex (b7.trans c1), kn, kg, khs, ktb, kth, gta, gtw, gtm, ⟨fun _ => mark_lt hlf, fun _ => by omega⟩, fun s h4 h20 => by have := hlf s h4 h20; omega⟩)
    · rintro σ' B ⟨G, k, mk, rfl, S, kn, kg, khs, ktb, kth, gta, gtw, gtm, hmk, hlf⟩
      have I0 : WI k.hs (⟨0, cs, fun _ => none⟩, []) 0 := by rw [khs]; exact ck.wi
      have htaB := S.dk.g _ _ gta
      have z5 := Int.emod_nonneg (cellv ts 5) (show (17 : Int) ≠ 0 by decide)
      have z5' := Int.emod_lt_of_pos (cellv ts 5) (show (0 : Int) < 17 by decide)
      obtain ⟨y2, hy2⟩ : ∃ y2, y2 = if cellv ts 5 / 17 % 3 = 0 then 0 else cellv ts 5 % 17 := ⟨_, rfl⟩
      have y20 : 0 ≤ y2 ∧ y2 ≤ 16 := by rw [hy2]; split <;> omega
      obtain ⟨m, hm⟩ : ∃ m : Nat, (m : Int) = if cellv ts 5 / 17 % 8 = 7 then 60 else y2 := ⟨(if cellv ts 5 / 17 % 8 = 7 then 60 else y2).toNat, by split <;> omega⟩
      have m60 : m ≤ 60 := by
        split at hm <;> omega
      refine q_asg (v := .int (cellv ts 5 % 17)) (ev_op (cc 5 htaB rfl rfl ev_c) ev_c (rv_I (by show (0 : Int) < 17; decide))) fun C1 c1 => ?_
      refine q_ifAsg (b := decide (cellv ts 5 / 17 % 3 = 0)) (v := .int y2) (et_is (et_test (ev_op (ev_op (ev_op (cc 5 (c1 _ _ htaB) rfl rfl ev_c) ev_c (rv_I ⟨by decide, by decide⟩)) ev_c (rv_I (by show (0 : Int) < 3; decide))) ev_c (rv_eq rfl))) (by simp)) (fun hb => ev_is ev_c (by rw [hy2, if_pos (of_decide_eq_true hb)])) (fun hb => by rw [hy2, if_neg (of_decide_eq_false hb)]; rfl) fun C2 c2 => ?_
      have c12 := c1.trans c2
      refine q_ifAsg (b := decide (cellv ts 5 / 17 % 8 = 7)) (v := .int (m : Int)) (et_is (et_test (ev_op (ev_op (ev_op (cc 5 (c12 _ _ htaB) rfl rfl ev_c) ev_c (rv_I ⟨by decide, by decide⟩)) ev_c (rv_I (by show (0 : Int) < 8; decide))) ev_c (rv_eq rfl))) (by simp)) (fun hb => ev_is ev_c (by rw [hm, if_pos (of_decide_eq_true hb)])) (fun hb => by rw [hm, if_neg (of_decide_eq_false hb)]; rfl) fun C3 c3 => ?_
      have c13 := c12.trans c3
      refine q_run (vs := [.ref q, .ref ta, .int ((6 : Nat) : Int), .int (m : Int)]) (ea_cons (ev_var rfl) (ea_cons (ev_var rfl) (ea_cons ev_c (ea_cons (ev_var rfl) ea_nil)))) fun C4 c4 => ⟨G, q, ta, k, _, ts, 6, m, 0, rfl, S.ex (c13.trans c4), kn, gta, hg, gtw, I0, by omega, fun G2 B8 l1 xs1 S8 F8 T8 hl1 A8 hl8 P8 => ?_⟩
      have I1 := WI.ru (st := 6) (ts := ts) I0 m (by omega)
      have M1 : M5 (ruW k.hs ts 6 m (⟨0, cs, fun _ => none⟩, [])).1 := m5_ru I0 (fun i ws h => by cases h) m (by omega)
      rw [Nat.zero_add] at I1
      generalize hs1 : ruW k.hs ts 6 m (⟨0, cs, fun _ => none⟩, []) = s1 at T8 P8 I1 M1
      have gta2 := S8.g _ _ gta
      have gth2 := S8.g _ _ kth
      have gtw2 := gtw.mono S8.g
      have gtm2 := gtm.mono S8.g
      have hta8 := T8.dk.g _ _ gta2
      obtain ⟨dx8, ho8⟩ := T8.o
      refine q_ifK (b := decide (0 < s1.2.length)) (fun σ' B => ∃ tb a' b', σ' = [some (.ref a), some (.ref ta), some (.int g), some (.ref q), some (.int mk), some (.int (m : Int)), some (.ref l1), none, none, none, none, none, none, none, none, none] ∧ ST c G2 B q { k with tb := tb } s1.1 ∧ G2 tb = some (.tup ([a', b'].map V.int)) ∧ 0 ≤ a' ∧ 0 ≤ b') (et_is (et_test (ev_op (ev_len (ev_var rfl) (sq_of hl8)) ev_c rv_I0)) (by rw [P8.n]; simp)) ?_ (fun hb D1 d1 fin => ?_) (fun _ D1 d1 fin => fin _ _ ⟨k.tb, 5, 1, rfl, T8.ex d1, by rw [ktb]; exact gth2, by decide, by decide⟩)
      · rintro σ' B9 ⟨tb, a', b', rfl, T9, htb, a0, b0⟩
        have etb : ({ k with tb := tb } : Sk).tb = tb := rfl
        have eth : G2 ({ k with tb := tb } : Sk).th = some (.tup ([5, 1].map V.int)) := gth2
        have I3 : WI ({ k with tb := tb } : Sk).hs (s1.1, s1.2) m := I1
        have en : ({ k with tb := tb } : Sk).n = 96 := kn
        have eg : ({ k with tb := tb } : Sk).g = g := kg
        have emk : mk < ({ k with tb := tb } : Sk).g ↔ ND.markOf ({ k with tb := tb } : Sk).f < ({ k with tb := tb } : Sk).g := by rw [eg]; exact hmk
        have elf : Lf (({ k with tb := tb } : Sk).g + 1) ({ k with tb := tb } : Sk).f := by rw [eg]; exact hlf
        generalize ({ k with tb := tb } : Sk) = k3 at T9 etb eth I3 en eg emk elf
        obtain ⟨d, hd⟩ : ∃ d, d = s1.1 := ⟨_, rfl⟩
        rw [← hd] at T9 I3 M1
        have T9e : ∀ {B : Hp}, Ex B9 B → ST c G2 B q k3 d := fun e => T9.ex e
        obtain ⟨dx9, ho9⟩ := T9.o
        have lcd := T9.lc
        have mk5 := fun x hx => mem_ok (k := k3) I3 M1 x hx
        have ml := mem_len (k := k3) en I3
        have c5 : ∀ x, x < 5 → cv d.cs x = 1 := I3.o
        -- numbers
        refine q_asgL (el_is (el_catL (el_rep1 (z := 5) (el_lst (ea_cons ev_c ea_nil) (by decide)) ev_c (by decide) (by decide)) (el_lcR2 (lo := 5) (n := 96) (fun _ => true) (fun i => .int (cv d.cs (5 + i))) (ea_cons ev_c (ea_cons ev_c ea_nil)) ⟨by decide, by decide, by decide, by decide⟩ (fun _ => rfl) (fun i H1 e1 hi => fun H2 _ Q q => q _ (Ex.refl _)) (fun i H1 e1 hi _ => ev_methU (us := [.int ((5 + i : Nat) : Int), .int 1]) (ev_var rfl) (e1 _ _ ho9) (tno (.inr (.inr (.inr (.inr (.inr (.inr (.inr (.inr (.inr (.inl rfl))))))))))) (eu_tup (ea_cons (ev_is (ev_var rfl) (by push_cast; rfl)) (ea_cons ev_c ea_nil)) (by simp)) (fun x A hx e' => sv_uses (T9e (e1.trans e')) hx (by rw [en]; omega)))) (Nat.le_trans (Nat.add_le_add_left (given_len _ _ _) _) (by rw [List.length_replicate]; decide))) (nums_eq (by rw [lcd, en]) c5)) fun nu BA hnu ba hnux => ?_
        -- contents
        refine er_asg (er_NL (ys := (memL k3 d).map fun i : Nat => V.int (i : Int)) (R := CtX B9 (cont k3 d) (memL k3 d)) (el_meth (ev_var rfl) (ba _ _ ho9) (tno (.inr (.inr (.inr (.inr (.inr (.inr (.inr (.inr (.inr (.inr (.inr (.inl rfl))))))))))))) ea_nil (fun A e' Q q' E' => ⟨G2, q, k3, d, rfl, T9e (ba.trans e'), by omega, q'⟩)) (by rw [List.length_map]; omega) (fun _ => rfl) (fun i xs y B B' e ⟨t, l, n, h1, h2, h3, h4, h5⟩ => ⟨t, l, n, h1, h2, e _ _ h3, e _ _ h4, h5⟩) (fun i x D B hD e hn hx ws _ _ Q' q' => ?_)) fun ct zs BB hct bb hctx hzl hzr => ?_
        · rw [List.getElem?_map] at hx
          obtain ⟨n, hnn, rfl⟩ := Option.map_eq_some_iff.mp hx
          obtain ⟨n5, n32, _, n96⟩ := mk5 n (List.mem_of_getElem? hnn)
          exact te_tup2L (ev_var rfl) (el_methU (us := [.int (n : Int), .int 1]) (ev_var rfl) ((ba.trans e) _ _ ho9) (tno (.inr (.inr (.inr (.inr (.inl rfl)))))) (eu_tup (ea_cons (ev_var rfl) (ea_cons ev_c ea_nil)) (by simp)) (fun x A hx e' A2 e2 Q2 q2 E2 => ⟨G2, q, k3, d, x, _, [.int 1], rfl, T9e ((ba.trans e).trans (e'.trans e2)), e2 _ _ hx, fun i' hi' _ _ => by
            obtain rfl : n = i' := by omega
            exact q2, fun hno => absurd ⟨by omega, by omega⟩ hno⟩)) (Ex.refl _) fun p l B2 hp hl b2 hpx hlx => q' _ _ b2 ⟨p, l, n, rfl, hnn, LP.but_new hn hp hpx, LP.but_new hn hl hlx, fresh_back (ba.trans e) hl⟩
        -- the image
        have b9B := ba.trans bb
        obtain ⟨ddB, hdB⟩ := T9.dk.o
        refine q_runM (vs := []) (ev_fld (ev_var rfl) (b9B _ _ ho9) TT.cl TT.nd NT.t_d) (b9B _ _ hdB) (dno (.inr (.inr rfl))) ea_nil fun BC bc => ⟨G2, k3.dp, k3.ka, k3.sa, k3.wa, k3.n, _, rfl, (T9e (b9B.trans bc)).dk, fun im ys BD him bd himx hyl hrl => ?_⟩
        have b9D := (b9B.trans bc).trans bd
        have hIm := img_of himx (by rw [hyl, en]) hrl
        -- the table, what is due, the steps
        refine q_asg (v := .ref k3.tb) (ev_fld (ev_var rfl) (b9D _ _ ho9) TT.cl TT.nt NT.t_t) fun BE be => ?_
        have b9E := b9D.trans be
        have hCt : ∀ {B : Hp}, Ex BB B → CtR B zs (memL k3 d) (cont k3 d) := fun e => ⟨by rw [hzl, List.length_map], fun i x hx => by
          have hi : i < zs.length := by rw [hzl, List.length_map]; exact (List.getElem?_eq_some_iff.mp hx).1
          obtain ⟨t, l, n, h1, h2, h3, h4, _⟩ := hzr i _ (List.getElem?_eq_getElem hi)
          rw [hx] at h2
          cases h2
          exact ⟨t, l, by rw [List.getElem?_eq_getElem hi, h1], e _ _ h3, e _ _ h4, (mk5 x (List.mem_of_getElem? hx)).2.1⟩⟩
        have bBE := (bc.trans bd).trans be
        refine q_run (vs := [.ref q, .ref ct, .int g, .int mk]) (ea_cons (ev_var rfl) (ea_cons (ev_var rfl) (ea_cons (ev_var rfl) (ea_cons (ev_var rfl) ea_nil)))) fun BF bf => ⟨G2, q, ct, k3, d, a', b', g, mk, zs, memL k3 d, cont k3 d, rfl, T9e (b9E.trans bf), (T9e (b9E.trans bf)).dk.g _ _ (by rw [etb]; exact htb), (bBE.trans bf) _ _ hctx, hCt (bBE.trans bf), by omega, by omega, fun du BG ds hdu bg hdux hdS => ?_⟩
        have ecs := cs_ld (d := d) (a := a') (b := b') en emk
        rw [eg] at ecs
        rw [ecs] at hdS
        have b9G := b9E.trans (bf.trans bg)
        refine q_run (vs := [.ref q]) (ea_cons (ev_var rfl) ea_nil) fun BH bh => ⟨G2, q, k3, d, a', b', 5, 1, rfl, T9e (b9G.trans bh), (T9e (b9G.trans bh)).dk.g _ _ (by rw [etb]; exact htb), (T9e (b9G.trans bh)).dk.g _ _ eth, gtm2.mono (T9e (b9G.trans bh)).dk.g, by omega, fun x hx => ⟨(mk5 x hx).1, (mk5 x hx).2.1⟩, by omega, fun st BI ss hst bi hstx hsS => ?_⟩
        have b9I := b9G.trans (bh.trans bi)
        have TI := T9e b9I
        -- frozen
        obtain ⟨G3, gg3, S3, in3, _⟩ := st_join TI (fun _ => False)
        have frz : ∀ {x : Addr} {o : HO} {B : Hp}, BI x = some o → Ex B9 B → B x = none → G3 x = some o := fun h e hn => in3 _ _ h (own_new T9 (fresh_back e hn)) (fun z => z)
        have gnu := frz ((((bb.trans bBE).trans (bf.trans bg)).trans (bh.trans bi)) _ _ hnux) (Ex.refl _) hnu
        have eDI := (be.trans (bf.trans bg)).trans (bh.trans bi)
        have eBI := (bBE.trans (bf.trans bg)).trans (bh.trans bi)
        have gct := frz (eBI _ _ hctx) ba hct
        have gdu := frz ((bh.trans bi) _ _ hdux) (b9E.trans bf) hdu
        have gst := frz hstx (b9G.trans bh) hst
        have gIm : Img G3 im k3.f := ⟨ys, frz (eDI _ _ himx) (b9B.trans bc) him, by rw [hyl, en], fun i v hv => by
          obtain ⟨l, h1, h2, h3, _⟩ := hrl i v hv
          refine ⟨l, h1, fun z => ?_, frz (eDI _ _ h3) (b9B.trans bc) h2⟩
          obtain ⟨ys', i1, i2, i3⟩ := hIm.a
          rw [himx] at i1
          cases i1
          obtain ⟨l', j1, j2, j3⟩ := i3 i v hv
          rw [h1] at j1
          cases j1
          exact j2 z⟩
        have gct2 : ∀ (i x : Nat), (memL k3 d)[i]? = some x → ∃ t l, zs[i]? = some (.ref t) ∧ G3 t = some (.tup [.int (x : Int), .ref l]) ∧ G3 l = some (.lst ((cont k3 d x).map V.int)) := fun i x hx => by
          have hi : i < zs.length := by rw [hzl, List.length_map]; exact (List.getElem?_eq_some_iff.mp hx).1
          obtain ⟨t, l, n, h1, h2, h3, h4, h5⟩ := hzr i _ (List.getElem?_eq_getElem hi)
          rw [hx] at h2
          cases h2
          exact ⟨t, l, by rw [List.getElem?_eq_getElem hi, h1], in3 _ _ (eBI _ _ h3) (own_tup TI (eBI _ _ h3)) (fun z => z), frz (eBI _ _ h4) (Ex.refl _) h5⟩
        have gdS : SL (fun l => BF l = none) G3 ds (csS k3 d a' b' 5 1) := (hdS.mono (bh.trans bi)).go (fun _ h => h) (fun x us h => in3 _ _ h (own_tup TI h) (fun z => z)) (fun x us n h => frz h (b9E.trans bf) n)
        have gtb3 := gg3 _ _ htb
        have gth3 := gg3 _ _ eth
        have gtw3 := gtw2.mono gg3
        have gtm3 := gtm2.mono gg3
        have hdl := gdS.n
        have cl := cs_len (k := k3) (a := a') (b := b') en I3 m60
        have ck := cs_k (k := k3) (a := a') (b := b') en I3 M1 (by omega) a0 b0
        obtain ⟨dxI, hoI⟩ := S3.o
        have eII : Ex BI BI := Ex.refl _
        refine q_when (b := false) (et_is (et_or (et_not (et_B (ev_isi (b := true) (ev_var rfl) ev_c (fun B e => .base (.lst (e _ _ hstx))) (kit_ty rfl)))) (fun _ => et_or (et_test (ev_op (ev_var rfl) (ev_var rfl) (rv_neD (hsS.dp hstx) ((gdS.mono S3.dk.g).dp (S3.dk.g _ _ gdu)) (sh_SL _) (by decide)))) (fun _ => et_or (et_test (ev_wait (tb := tLst tNil) S3 (fun B e => ev_fld (ev_var rfl) (e _ _ hoI) TT.cl TT.nd NT.t_d))) (fun _ => et_test (ev_last S3 en (fun B e => ev_fld (ev_var rfl) (e _ _ hoI) TT.cl TT.nd NT.t_d) (fun B e => ev_var rfl) (gIm.gx (Gx.ex S3.dk.g))))))) rfl) (fun h => by cases h) fun _ BJ bj => ?_
        have SJ := S3.ex bj
        have gJ := SJ.dk.g
        have hrw : ∀ {B : Hp}, Ex G3 B → ∀ (i : Nat) (v : V), zs[i]? = some v → ∃ t l n, v = .ref t ∧ (memL k3 d)[i]? = some n ∧ B t = some (.tup [.int (n : Int), .ref l]) ∧ B l = some (.lst ((cont k3 d n).map V.int)) := fun e i v hv => by
          have hi : i < (memL k3 d).length := by
            have := (List.getElem?_eq_some_iff.mp hv).1
            rw [hzl, List.length_map] at this
            exact this
          obtain ⟨t, l, h1, h2, h3⟩ := gct2 i _ (List.getElem?_eq_getElem hi)
          rw [hv] at h1
          cases h1
          exact ⟨t, l, _, rfl, List.getElem?_eq_getElem hi, e _ _ h2, e _ _ h3⟩
        refine q_when (b := false) (et_test (ev_opLL (el_meth (ev_var rfl) (bj _ _ hoI) (tno (.inr (.inr (.inr (.inr (.inr (.inr (.inr (.inr (.inr (.inr (.inr (.inl rfl))))))))))))) ea_nil (fun A e' Q q' E' => ⟨G3, q, k3, d, rfl, SJ.ex e', by omega, q'⟩)) (el_is (ys := (memL k3 d).map fun i : Nat => V.int (i : Int)) (el_lcL (xs := zs) (fun _ => true) (fun i => .int (((memL k3 d).getD i 0 : Nat) : Int)) (ev_var rfl) (sq_of (gJ _ _ gct)) (by rw [hzl, List.length_map]; omega) (fun _ => rfl) (fun i x H1 e1 hx => fun H2 _ Q q => q _ (Ex.refl _)) (fun i x H1 e1 hx _ => by
          obtain ⟨t, l, n, rfl, hn, h2, h3⟩ := hrw (gJ.trans e1) i x hx
          exact ev_op (ev_var rfl) ev_c (rv_ixT (st_of h2) (atI_nat (j := 0) (by rw [List.getD_eq_getElem?_getD, hn]; rfl))))) (by
            unfold given
            rw [List.filter_eq_self.mpr fun a _ => rfl]
            refine List.ext_getElem (by rw [List.length_map, List.length_range, List.length_map, hzl, List.length_map]) fun i h1 h2 => ?_
            rw [List.length_map] at h2
            rw [List.getElem_map, List.getElem_map, List.getElem_range, List.getD_eq_getElem?_getD, List.getElem?_eq_getElem h2]
            rfl)) (fun p r B hp hr _ => rv_neD (d := .list (((memL k3 d).map fun i : Nat => (i : Int)).map PyData.int)) (.lst (sq_of hp) (by
            have := dp_ints (K := K) (H := B) ((memL k3 d).map fun i : Nat => (i : Int))
            rw [List.map_map] at this
            exact this)) (.lst (sq_of hr) (by
            have := dp_ints (K := K) (H := B) ((memL k3 d).map fun i : Nat => (i : Int))
            rw [List.map_map] at this
            exact this)) (sh_lst (sh_ints _)) (by decide)))) (fun h => by cases h) fun _ BK bk => ?_
        have SK := SJ.ex bk
        refine q_run (vs := [.ref q]) (ea_cons (ev_var rfl) ea_nil) fun BL bl => ⟨G3, q, k3, d, a', b', 5, 1, rfl, SK.ex bl, (SK.ex bl).dk.g _ _ (by rw [etb]; exact gtb3), (SK.ex bl).dk.g _ _ gth3, gtm3.mono (SK.ex bl).dk.g, gtw3, by omega, fun x hx => ⟨(mk5 x hx).1, (mk5 x hx).2.1⟩, by omega, ck, cl, cs_end, fun hnil BM bm => ?_, fun hne G4 BM hp hl mm sa wa gx T4 => ?_⟩
        · -- nothing to commit
          have SM := (SK.ex bl).ex bm
          obtain ⟨dxM, hoM⟩ := SM.o
          obtain ⟨dhM, hhM⟩ := SM.h
          have gM := SM.dk.g
          rw [hnil] at gdS hdl
          have hdl0 : ds = [] := List.length_eq_zero_iff.mp hdl
          refine q_when (b := false) (et_is (et_or (et_not (et_B (ev_isi (b := true) (ev_var rfl) ev_c (fun B e => .base (.bl _)) (kit_ty rfl)))) (fun _ => et_or (et_test (ev_op (ev_var rfl) (ev_op (ev_len (ev_var rfl) (sq_of (gM _ _ gdu))) ev_c rv_I0) (rv_ne rfl))) (fun _ => et_test (ev_wait (tb := tLst tNil) SM (fun B e => ev_fld (ev_var rfl) (e _ _ hoM) TT.cl TT.nd NT.t_d))))) (by rw [hdl0]; rfl)) (fun h => by cases h) fun _ BN bn => ?_
          have SN := SM.ex bn
          refine q_when (b := false) (et_test (ev_opMM (em_last SN en (fun B e => ev_fld (ev_var rfl) ((bn.trans e) _ _ hoM) TT.cl TT.nd NT.t_d)) (fun v B B' e ⟨L, a, b⟩ => ⟨L, a, b.gx (Gx.ex e)⟩) (fun B e B' b' Q' q' => (ea_cons (ev_var rfl) (ea_cons (ev_var rfl) ea_nil) : EvA _ _ B' _) B' (Ex.refl _) _ fun B2 b2 => ⟨im, du, k3.f, ds, [], _, rfl, gIm.gx (Gx.ex (SN.ex ((e.trans b').trans b2)).dk.g), (SN.ex ((e.trans b').trans b2)).dk.g _ _ gdu, gdS.mono (SN.ex ((e.trans b').trans b2)).dk.g, by decide, (fun s hs => nomatch hs), fun p B3 hp b3 hI => q' _ _ (b2.trans b3) ⟨p, rfl, hI⟩⟩) fun v1 v2 B e h1 h2 => img_ne h1 h2)) (fun h => by cases h) fun _ BO bo => ?_
          have SO := SN.ex bo
          obtain ⟨dxO, hoO⟩ := SO.o
          refine q_when (b := true) (et_is (et_not (et_B (b := false) (ev_var rfl))) rfl) (fun _ BP bp => ?_) (fun h => by cases h)
          have SP := SO.ex bp
          refine s_ret (ev_is (ev_andV (ev_op (ev_meth0 (ev_var rfl) (bp _ _ hoO) (tno (.inl rfl)) (NT.sv_gen SP)) (ev_op (ev_var rfl) ev_c rv_I0) (rv_eq rfl)) (fun _ => ev_op (ev_fld (ev_fld (ev_var rfl) (bp _ _ hoO) TT.cl TT.nh NT.t_h) (SP.dk.g _ _ hhM) TH.cl TH.ng rfl) (ev_var rfl) (rv_eq rfl))) (w := .bl true) (by rw [eg]; simp)) fun BQ bq => qq BQ (gtw3.mono (SP.ex bq).dk.g) (gtm3.mono (SP.ex bq).dk.g)
        · -- a commit
          have eaf : (rnS k3.f (csS k3 d a' b' 5 1)).1 = afS k3.f (csS k3 d a' b' 5 1) := rnS_af cs_end
          have n96 : ({ k3 with f := (rnS k3.f (csS k3 d a' b' 5 1)).1, sa := sa, wa := wa, hp := hp, g := k3.g + 1, th := k3.tb, hl := hl, m := mm, hs := NS.pos d.cs } : Sk).n = 96 := en
          have eg4 : ({ k3 with f := (rnS k3.f (csS k3 d a' b' 5 1)).1, sa := sa, wa := wa, hp := hp, g := k3.g + 1, th := k3.tb, hl := hl, m := mm, hs := NS.pos d.cs } : Sk).g = g + 1 := by show k3.g + 1 = g + 1; rw [eg]
          have ef4 : ({ k3 with f := (rnS k3.f (csS k3 d a' b' 5 1)).1, sa := sa, wa := wa, hp := hp, g := k3.g + 1, th := k3.tb, hl := hl, m := mm, hs := NS.pos d.cs } : Sk).f = afS k3.f (csS k3 d a' b' 5 1) := eaf
          have et4 : ({ k3 with f := (rnS k3.f (csS k3 d a' b' 5 1)).1, sa := sa, wa := wa, hp := hp, g := k3.g + 1, th := k3.tb, hl := hl, m := mm, hs := NS.pos d.cs } : Sk).tb = k3.tb := rfl
          have eh4 : ({ k3 with f := (rnS k3.f (csS k3 d a' b' 5 1)).1, sa := sa, wa := wa, hp := hp, g := k3.g + 1, th := k3.tb, hl := hl, m := mm, hs := NS.pos d.cs } : Sk).th = k3.tb := rfl
          have es4 : ({ k3 with f := (rnS k3.f (csS k3 d a' b' 5 1)).1, sa := sa, wa := wa, hp := hp, g := k3.g + 1, th := k3.tb, hl := hl, m := mm, hs := NS.pos d.cs } : Sk).hs = NS.pos d.cs := rfl
          generalize ({ k3 with f := (rnS k3.f (csS k3 d a' b' 5 1)).1, sa := sa, wa := wa, hp := hp, g := k3.g + 1, th := k3.tb, hl := hl, m := mm, hs := NS.pos d.cs } : Sk) = k4 at T4 n96 eg4 ef4 et4 eh4 es4
          obtain ⟨d4, hd4⟩ : ∃ d4 : Sd, d4 = ⟨d.r, d.cs, fun _ => none⟩ := ⟨_, rfl⟩
          rw [← hd4] at T4
          have c4e : d4.cs = d.cs := by rw [hd4]
          have m4e : d4.mem = fun _ => none := by rw [hd4]
          obtain ⟨dx4, ho4⟩ := T4.o
          obtain ⟨dh4, hh4⟩ := T4.h
          have g4 := T4.dk.g
          have gtb4 : G4 k4.tb = some (.tup ([a', b'].map V.int)) := by rw [et4, etb]; exact gx.t gtb3
          have gdS4 : SL (fun l => BF l = none) G4 ds (csS k3 d a' b' 5 1) := gdS.go (fun _ h => h) (fun x us h => gx.t h) (fun x us n h => gx.l h)
          have gdu4 := gx.l gdu
          have gtw4 := tab_gx gtw3 gx
          have gtm4 := tab_gx gtm3 gx
          have gIm4 := gIm.gx gx
          have gnu4 := gx.l gnu
          have gct4 := gx.l gct
          have hpos : 0 < ds.length := by
            rw [hdl]
            exact List.length_pos_iff.mpr hne
          refine q_when (b := false) (et_is (et_or (et_not (et_B (ev_isi (b := true) (ev_var rfl) ev_c (fun B e => .base (.bl _)) (kit_ty rfl)))) (fun _ => et_or (et_test (ev_op (ev_var rfl) (ev_op (ev_len (ev_var rfl) (sq_of (g4 _ _ gdu4))) ev_c rv_I0) (rv_ne rfl))) (fun _ => et_test (ev_wait (tb := tLst tNil) T4 (fun B e => ev_fld (ev_var rfl) (e _ _ ho4) TT.cl TT.nd NT.t_d))))) (by rw [decide_eq_true (show (ds.length : Int) > 0 by omega)]; rfl)) (fun h => by cases h) fun _ BN bn => ?_
          have SN := T4.ex bn
          refine q_when (b := false) (et_test (ev_opMM (R2' := fun v B => ∃ L, v = .ref L ∧ Img B L (afS k3.f (csS k3 d a' b' 5 1))) (em_last SN n96 (fun B e => ev_fld (ev_var rfl) ((bn.trans e) _ _ ho4) TT.cl TT.nd NT.t_d)) (fun v B B' e ⟨L, a, b⟩ => ⟨L, a, b.gx (Gx.ex e)⟩) (fun B e B' bq' Q' q' => (ea_cons (ev_var rfl) (ea_cons (ev_var rfl) ea_nil) : EvA _ _ B' _) B' (Ex.refl _) _ fun B2 b2 => ⟨im, du, k3.f, ds, csS k3 d a' b' 5 1, _, rfl, gIm4.gx (Gx.ex (SN.ex ((e.trans bq').trans b2)).dk.g), (SN.ex ((e.trans bq').trans b2)).dk.g _ _ gdu4, gdS4.mono (SN.ex ((e.trans bq').trans b2)).dk.g, by omega, (by rw [← en]; exact ck), fun p B3 hp b3 hI => q' _ _ (b2.trans b3) ⟨p, rfl, hI⟩⟩) fun v1 v2 B e h1 h2 => img_ne h1 (by rw [ef4]; exact h2))) (fun h => by cases h) fun _ BO bo => ?_
          have bNO := bn.trans bo
          refine q_when (b := false) (et_is (et_not (et_B (b := true) (ev_var rfl))) rfl) (fun h => by cases h) fun _ BP bp => ?_
          have bNP := bNO.trans bp
          have SP := T4.ex bNP
          have dtb : ∀ {B : Hp}, Ex BM B → Dp K B (.ref k4.tb) (.tuple ([a', b'].map PyData.int)) := fun e => .tup (st_of ((g4.trans e) _ _ gtb4)) (dp_ints [a', b'])
          have stb : Sh 1 (.tuple ([a', b'].map PyData.int)) := sh_tup (sh_ints _)
          refine q_when (b := false) (et_is (et_or (et_test (ev_op (ev_meth0 (ev_var rfl) (bNP _ _ ho4) (tno (.inl rfl)) (NT.sv_gen SP)) (ev_op (ev_var rfl) ev_c rv_I0) (rv_ne rfl))) (fun _ => et_or (et_test (ev_op (ev_fld (ev_fld (ev_var rfl) (bNP _ _ ho4) TT.cl TT.nh NT.t_h) (SP.dk.g _ _ hh4) TH.cl TH.ng rfl) (ev_op (ev_var rfl) ev_c rv_I0) (rv_ne rfl))) (fun _ => et_test (ev_op (ev_fld (ev_fld (ev_var rfl) (bNP _ _ ho4) TT.cl TT.nh NT.t_h) (SP.dk.g _ _ hh4) TH.cl TH.nt rfl) (ev_var rfl) (rv_neD (by rw [eh4, ← et4]; exact dtb bNP) (by rw [← et4]; exact dtb bNP) stb (by decide)))))) (by rw [eg4, Int.add_assoc]; simp)) (fun h => by cases h) fun _ BQ bq => ?_
          have bNQ := bNP.trans bq
          have SQ := T4.ex bNQ
          refine q_when (b := false) (et_is (et_or (et_test (ev_op (ev_fld (ev_var rfl) (bNQ _ _ ho4) TT.cl TT.nt NT.t_t) (ev_var rfl) (rv_neD (dtb bNQ) (by rw [← et4]; exact dtb bNQ) stb (by decide)))) (fun _ => et_not (et_B (b := true) (ev_call (vs := [.ref q, .ref nu]) (ea_cons (ev_var rfl) (ea_cons (ev_var rfl) ea_nil)) (fun A e Q' q' E' => ⟨G4, q, nu, k4, d4, rfl, SQ.ex e, n96, (SQ.ex e).dk.g _ _ (by rw [c4e]; exact gnu4), by rw [c4e]; exact es4, m4e, by rw [c4e]; exact c5, by rw [c4e]; exact I3.p, q'⟩))))) rfl) (fun h => by cases h) fun _ BR br => ?_
          have bNR := bNQ.trans br
          have SR := T4.ex bNR
          refine q_forL (a := ct) (ev_var rfl) (sq_of (SR.dk.g _ _ gct4)) (fun i σ' B => ∃ y, σ' = [some (.ref a), some (.ref ta), some (.int g), some (.ref q), some (.int mk), some (.int (m : Int)), some (.ref l1), some (.ref nu), some (.ref ct), some (.ref im), some (.ref k3.tb), some (.ref du), some (.ref st), some (.bl true), y, none] ∧ Ex BM B) (fun B e => ⟨none, rfl, bNR.trans e⟩) (fun i σ' B _ ⟨y, _, e⟩ => sq_of ((g4.trans e) _ _ gct4)) ?_ ?_
          · rintro i v σ' B hv ⟨y, rfl, eB⟩
            have hi : i < (memL k3 d).length := by
              have := (List.getElem?_eq_some_iff.mp hv).1
              rw [hzl, List.length_map] at this
              exact this
            obtain ⟨t, l, h1, h2, h3⟩ := gct2 i _ (List.getElem?_eq_getElem hi)
            rw [hv] at h1
            cases h1
            have hmem := List.getElem_mem hi
            generalize (memL k3 d)[i] = n at h2 h3 hmem
            obtain ⟨n5, n32, _, nlt⟩ := mk5 n hmem
            have ht := (g4.trans eB) _ _ (gx.t h2)
            have hl' := (g4.trans eB) _ _ (gx.l h3)
            have ecn : cont k4 d4 n = cont k3 d n := by
              unfold NT.cont
              rw [m4e]
              show NT.blk k4.f n = _
              rw [ef4]
              exact cs_blk (I := I3) M1 hne n hmem
            refine s_when (b := false) (et_is (et_not (et_B (b := true) (ev_lib (ns := cont k3 d n) (b := l) (ev_var rfl) (eB _ _ ho4) (tno (.inr (.inr (.inr (.inr (.inl rfl)))))) (eu_tup (vs := [.int (n : Int), .int 1]) (ea_cons (ev_op (ev_var rfl) ev_c (rv_ixT (st_of ht) (atI_nat (j := 0) rfl))) (ea_cons ev_c ea_nil)) (by simp)) (fun x A hx e' Q' q' => ⟨G4, q, k4, d4, x, _, [.int 1], rfl, T4.ex (eB.trans e'), hx, fun i' hi' _ _ => ?_, fun hno => absurd ⟨by omega, by omega⟩ hno⟩) (fun A e => ev_op (ev_var rfl) ev_c (rv_ixT (st_of (e _ _ ht)) (atI_nat (j := 1) rfl))) hl' n32))) rfl) (fun h => by cases h) fun _ B2 b2 => ⟨_, rfl, eB.trans b2⟩
            obtain rfl : n = i' := by omega
            rw [ecn]
            exact fun p A2 hp e2 hpx => q' p A2 e2 hpx
          · rintro σ' B ⟨y, rfl, eB⟩
            obtain ⟨dd4, hd4'⟩ := T4.dk.o
            refine q_runM (vs := []) (ev_fld (ev_var rfl) (eB _ _ ho4) TT.cl TT.nd NT.t_d) (eB _ _ hd4') (dno (.inr (.inr rfl))) ea_nil fun BS bs => ⟨G4, k4.dp, k4.ka, k4.sa, k4.wa, k4.n, _, rfl, (T4.ex (eB.trans bs)).dk, fun im2 ys2 BT him2 bt himx2 hyl2 hrl2 => ?_⟩
            have hIm2 := img_of himx2 (by rw [hyl2, n96]) hrl2
            have eT := (eB.trans bs).trans bt
            have hlf4 : Lf (k3.g + 1) k4.f := by rw [ef4]; exact cs_lf I3 M1 elf
            have hmk4 : ND.markOf k4.f < k4.g := by
              have := mark_lt hlf4
              rw [eg4, ← eg]
              exact this
            have hnil : csS k4 d4 a' b' a' b' = [] := by
              unfold csS
              rw [if_pos ⟨eqv_refl2 a' b', hmk4⟩]
            have mn : memL k4 d4 = [] := nb_nil m4e
            have gth4 : G4 k4.th = some (.tup ([a', b'].map V.int)) := by rw [eh4, ← et4]; exact gtb4
            have mt : ∀ x ∈ memL k4 d4, 5 ≤ x ∧ (cont k4 d4 x).length = 32 := fun x hx => by rw [mn] at hx; cases hx
            refine s_ret (ev_is (ev_andV (b := true) (ev_op (ev_call (vs := [.ref q]) (ea_cons (ev_var rfl) ea_nil) (fun A e Q' q' E' => ⟨G4, q, k4, d4, a', b', a', b', rfl, T4.ex (eT.trans e), (g4.trans (eT.trans e)) _ _ gtb4, (g4.trans (eT.trans e)) _ _ gth4, gtm4.mono (g4.trans (eT.trans e)), gtw4, by omega, mt, by rw [mn]; decide, (by rw [hnil]; exact fun s hs => nomatch hs), by rw [hnil]; decide, by rw [hnil]; rfl, fun _ A2 e2 => q' A2 e2, fun hn => absurd hnil hn⟩)) ev_c (z := .bl true) (rv_val fun H1 e1 Q' q' => ⟨false, false, rfl, rfl, q'⟩)) (fun _ => ev_andV (b := true) (ev_opMM (z := .bl true) (em_last (T4.ex eT) n96 (fun B e => ev_fld (ev_var rfl) ((eT.trans e) _ _ ho4) TT.cl TT.nd NT.t_d)) (fun v B B' e ⟨L, a, b⟩ => ⟨L, a, b.gx (Gx.ex e)⟩) (fun B e => em_ev (v := .ref im2) (ev_var rfl)) (fun v1 v2 B e ⟨L, h1, h1'⟩ h2 => by
              subst h1
              rw [h2]
              exact rv_eqD h1'.dp (hIm2.gx (Gx.ex e)).dp (sh_dLF _ _) (by decide))) (fun _ => ev_opMM (z := .bl true) (R1 := fun v B => ∃ L, v = .ref L ∧ B L = some (.lst [])) (fun B e Q' q' => (ea_cons (ev_var rfl) ea_nil : EvA _ _ B [.ref q]) B (Ex.refl _) _ fun B2 b2 => ⟨G4, q, k4, d4, a', b', a', b', rfl, T4.ex (eT.trans (e.trans b2)), (g4.trans (eT.trans (e.trans b2))) _ _ gtb4, (g4.trans (eT.trans (e.trans b2))) _ _ gth4, gtm4.mono (g4.trans (eT.trans (e.trans b2))), by omega, mt, by rw [mn]; decide, fun p B3 xs3 hp b3 hpx hS3 => q' _ _ (b2.trans b3) ⟨p, rfl, by
                rw [hnil] at hS3
                rw [List.length_eq_zero_iff.mp hS3.n] at hpx
                exact hpx⟩⟩) (fun v B B' e ⟨L, a, b⟩ => ⟨L, a, e _ _ b⟩) (fun B e => em_el (el_lst ea_nil (by decide))) (fun v1 v2 B e h1 h2 => by
                obtain ⟨L, h1, h1'⟩ := h1
                obtain ⟨L2, h2, h2'⟩ := h2
                subst h1
                subst h2
                exact rv_eqD (d := .list []) (.lst (sq_of h1') .nil) (.lst (sq_of h2') .nil) (sh_lst (n := 0) fun d hd => by cases hd) (by decide))))) (w := .bl true) rfl) fun BU bu => qq BU (gtw4.mono (g4.trans (eT.trans bu))) (gtm4.mono (g4.trans (eT.trans bu)))
      · have hb1 := of_decide_eq_true hb
        have lz := Int.emod_nonneg (cellv ts 5 / 51) (show (s1.2.length : Int) ≠ 0 by omega)
        have lz' := Int.emod_lt_of_pos (cellv ts 5 / 51) (show (0 : Int) < (s1.2.length : Int) by omega)
        obtain ⟨j, hj⟩ : ∃ j : Nat, (j : Int) = cellv ts 5 / 51 % (s1.2.length : Int) := ⟨(cellv ts 5 / 51 % (s1.2.length : Int)).toNat, by omega⟩
        have hjl : j < s1.2.length := by omega
        obtain ⟨t0, p1, p2⟩ := P8.a j _ (List.getElem?_eq_getElem hjl)
        have hn8 := P8.n
        refine s_m (vs := [.ref t0]) (ev_var rfl) (d1 _ _ ho8) (tnu) (ea_cons (ev_op (ev_var rfl) (ev_is (ev_op (ev_op (cc 5 (d1 _ _ hta8) rfl rfl ev_c) ev_c (rv_I ⟨by decide, by decide⟩)) (ev_len (ev_var rfl) (sq_of (d1 _ _ hl8))) (rv_I (by show (0 : Int) < ((xs1.length : Nat) : Int); omega))) (w := .int ((j : Nat) : Int)) (by rw [hn8, hj])) (rv_ixL (sq_of (d1 _ _ hl8)) (atI_nat p1))) ea_nil) fun D2 d2 => ⟨G2, q, k, s1.1, t0, rfl, T8.ex (d1.trans d2), fun D3 F3 T3 => ?_⟩
        exact fin _ _ ⟨t0, (s1.2[j] : Int), k.g + 1, rfl, T3, p2, by omega, by omega⟩
    · -- the mark of the log
      have x0 := Int.emod_nonneg (cellv ts 4 / 4) (show (16 : Int) ≠ 0 by decide)
      have x1 := Int.emod_lt_of_pos (cellv ts 4 / 4) (show (0 : Int) < 16 by decide)
      obtain ⟨sx, hsx⟩ : ∃ sx : Nat, sx = (4 + cellv ts 4 / 4 % 16).toNat := ⟨_, rfl⟩
      obtain ⟨dx, ho⟩ := S.o
      obtain ⟨dd, hd⟩ := S.dk.o
      have b71 := b7.trans c1
      have w0 : ∀ z ∈ ([1, 0, 2, 3, 4, 5, 6, g] : List Int), 0 ≤ z := fun z hz => by
        simp only [List.mem_cons, List.not_mem_nil, or_false] at hz
        rcases hz with rfl | rfl | rfl | rfl | rfl | rfl | rfl | rfl <;> omega
      refine q_m2LD (v1 := .int ((sx : Nat) : Int)) (xs := ([1, 0, 2, 3, 4, 5, 6, g] : List Int).map V.int) (ev_fld (ev_var rfl) (b71 _ _ ho) TT.cl TT.nd NT.t_d) (b71 _ _ hd) (dno (.inr (.inl rfl))) (ev_is (ev_op ev_c (ev_op (ev_op (cc 4 (c1 _ _ hta7) rfl rfl ev_c) ev_c (rv_I ⟨by decide, by decide⟩)) ev_c (rv_I (by show (0 : Int) < 16; decide))) rv_I0) (by congr 1; omega)) (el_lst (ea_cons ev_c (ea_cons ev_c (ea_cons ev_c (ea_cons ev_c (ea_cons ev_c (ea_cons ev_c (ea_cons ev_c (ea_cons (ev_var rfl) ea_nil)))))))) (by simp)) fun u C2 hu c2 hux => ?_
      have c12 := b71.trans c2
      refine ⟨G, k.dp, k.ka, k.sa, k.wa, k.n, _, ((sx : Nat) : Int), u, _, rfl, S.dk.ex c12, hux, ND.kd_ints _, gtw, by show 0 < 300; decide, (fun z => by rw [z, c12 _ _ hd] at hux; cases hux), fun hno => absurd ⟨⟨by omega, by omega⟩, rfl, ND.ints_wd w0⟩ hno, fun _ s' ns' hs' hs4 hns h8' hnn' G3 C3 S3 fr3 D3 => ?_, fun hno _ => absurd ⟨rfl, fun z => by cases z⟩ hno⟩
      obtain rfl : sx = s' := by omega
      obtain rfl := ints_inj hns
      have R3 := ((rt_of S).ex c12).wr S3 fr3
      obtain ⟨dx3, ho3⟩ := R3.o
      obtain ⟨dd3, hd3⟩ := D3.o
      refine q_m (vs := []) (ev_fld (ev_var rfl) ho3 TT.cl TT.nd NT.t_d) hd3 (dno (.inl rfl)) ea_nil fun C4 c4 => ⟨G3, k.dp, k.ka, k.sa, k.wa, k.n, _, rfl, D3.ex c4, fun hon G4 C5 sa2 wa2 S5 fr5 D5 => ?_, fun hno => absurd ⟨rfl, fun z => by cases z⟩ hno⟩
      have hKd : ND.aftN k.f ([] ++ [(sx, [1, 0, 2, 3, 4, 5, 6, g])]) (fun _ => 8) ([] ++ [(sx, [1, 0, 2, 3, 4, 5, 6, g])]).length = LP.fset k.f sx [1, 0, 2, 3, 4, 5, 6, g] := by
        rw [aft_due S.dk.kz (fun w hw => by
          rw [List.nil_append] at hw
          rw [List.mem_singleton.mp hw]
          rfl) _ (Nat.le_refl _), List.take_length]
        rfl
      replace D5 : DK c.D G4 C5 k.dp k.ka sa2 wa2 k.n ⟨ND.aftN k.f ([] ++ [(sx, [1, 0, 2, 3, 4, 5, 6, g])]) (fun _ => 8) ([] ++ [(sx, [1, 0, 2, 3, 4, 5, 6, g])]).length, [], true, none⟩ := D5
      rw [hKd] at D5
      have R5 := ((R3.ex c4).fl S5 fr5 D5).st D5
      have gg := S3.g.trans S5.g
      refine s_asg (ev_var rfl) fun C6 c6 => fin _ _ ⟨G4, _, g, rfl, R5.ex c6, kn, kg, khs, ktb, gg _ _ kth, gg _ _ gta, gtw.mono gg, gtm.mono gg, ⟨fun h => absurd h (by omega), fun h => ?_⟩, fun s h4 h20 => ?_⟩
      · have := mark_ge (f := LP.fset k.f sx [1, 0, 2, 3, 4, 5, 6, g]) (s := sx) (by omega) (by omega)
        rw [show cellv (LP.fset k.f sx [1, 0, 2, 3, 4, 5, 6, g] sx) 7 = g by unfold LP.fset; rw [if_pos rfl]; rfl] at this
        have h : ND.markOf (LP.fset k.f sx [1, 0, 2, 3, 4, 5, 6, g]) < g := h
        omega
      · show cellv (LP.fset k.f sx [1, 0, 2, 3, 4, 5, 6, g] s) 7 < g + 1
        unfold LP.fset
        split
        · show g < g + 1
          omega
        · have := hlf s h4 h20
          omega
end

end K24

set_option Elab.async false
set_option linter.all false
set_option maxRecDepth 100000
set_option maxHeartbeats 4000000
namespace K24
open PySem PySem.Spec PyProof.Rows L2 Evl LK LT LG LS LQ LX LO LN LP LH LV LZ LW StX LD
open NT (Cc Txt)
open NH
theorem facts {l : PySem.W.OpenLaw} {w : World} {K : PySem.W.Frag} {h : Heap} {mg : Str → Option Value} {fa : Addr} (X : K.In h) (G : h.Ns mainGlobals mg) (hfa : mg ("law" : Str) = some (.ref fa)) (c : He.SaysX faL fnL [] tfL exL w h K) :
    ∃ (fd : FuncData) (cs : List (Addr × Addr)) (sp : Sp), (∀ p ∈ cs, h.get? p.2 = some { cls := .none, data := .fields #[] } ∧ K.lookup p.2 = none ∧ PySem.W.CodeHd h p.1 p.2) ∧ (∀ (s : Shared) (u : Value), BindsTo s fd ⟨[u], []⟩ [("script", u)]) ∧
        (∀ (H : Hp) (a : Addr) (ns : List Int), ns.length ≤ 63 → (∀ p ∈ cs, LT.Tab H p.2) → SqL K H a (ns.map V.int) → ∀ Q : VK, (∀ H', (∀ p ∈ cs, LT.Tab H' p.2) → Q (.bl true) H') → sp [.ref a] H Q fun _ _ _ => False) ∧
        ∀ base : Heap, K.In base → base.Ns mainGlobals mg → (∀ p ∈ cs, LamX.TabB base mg p.1 p.2) → FnOk l.prog w K mg base CX0 9 fa fd ["script"] sp := by
  have cd := c.t.d
  obtain ⟨fd1, F1⟩ := cd.def_ 0 (d := d1) rfl
  have F1 := HE.fun_of (st := ND.sIw) F1
  have m1 := He.glo_ok X G (cd.fact 0 (f := .glo "is_word") rfl)
  have b1 := F1.binds (ps := ["value"]) fun _ _ _ _ _ _ us hl => match us, hl with | [_], _ => rfl
  obtain ⟨fd2, F2⟩ := cd.def_ 1 (d := d2) rfl
  have F2 := HE.fun_of (st := ND.sAre) F2
  have F2 := HE.funC_of F2
  have m2 := He.glo_ok X G (cd.fact 1 (f := .glo "are_words") rfl)
  have b2 := F2.fun.binds (ps := ["values", "many"]) fun _ _ _ _ _ _ us hl => match us, hl with | [_, _], _ => rfl
  obtain ⟨fd3, F3⟩ := cd.def_ 2 (d := d3) rfl
  have F3 := HE.fun_of (st := ND.sSize) F3
  have m3 := He.glo_ok X G (cd.fact 2 (f := .glo "is_size") rfl)
  have b3 := F3.binds (ps := ["blocks"]) fun _ _ _ _ _ _ us hl => match us, hl with | [_], _ => rfl
  obtain ⟨fd4, F4⟩ := cd.def_ 3 (d := d4) rfl
  have F4 := HE.fun_of (st := ND.sInit) F4
  have b4 := F4.binds (ps := ["self", "blocks"]) fun _ _ _ _ _ _ us hl => match us, hl with | [_, _], _ => rfl
  obtain ⟨fd5, F5⟩ := cd.def_ 4 (d := d5) rfl
  have F5 := HE.fun_of (st := ND.sRead) F5
  have m5 := He.meth_ok (cd.fact 3 (f := .meth "Disk" "read") rfl)
  have b5 := F5.binds (ps := ["self", "sector"]) fun _ _ _ _ _ _ us hl => match us, hl with | [_, _], _ => rfl
  obtain ⟨fd6, F6⟩ := cd.def_ 5 (d := d6) rfl
  have F6 := HE.fun_of (st := ND.sSec) F6
  have m6 := He.meth_ok (cd.fact 4 (f := .meth "Disk" "_is_sector") rfl)
  have b6 := F6.binds (ps := ["self", "sector"]) fun _ _ _ _ _ _ us hl => match us, hl with | [_, _], _ => rfl
  obtain ⟨fd7, F7⟩ := cd.def_ 6 (d := d7) rfl
  have F7 := HE.fun_of (st := ND.sBeg) F7
  have m7 := He.meth_ok (cd.fact 5 (f := .meth "Disk" "_begin_operation") rfl)
  have b7 := F7.binds (ps := ["self"]) fun _ _ _ _ _ _ us hl => match us, hl with | [_], _ => rfl
  obtain ⟨fd8, F8⟩ := cd.def_ 7 (d := d8) rfl
  have F8 := HE.fun_of (st := NS.sInit) F8
  have b8 := F8.binds (ps := ["self", "uses"]) fun _ _ _ _ _ _ us hl => match us, hl with | [_, _], _ => rfl
  obtain ⟨fd9, F9⟩ := cd.def_ 8 (d := d9) rfl
  have F9 := HE.fun_of (st := NS.sTake) F9
  have m9 := He.meth_ok (cd.fact 6 (f := .meth "Space" "take") rfl)
  have b9 := F9.binds (ps := ["self", "reserve"]) fun _ _ _ _ _ _ us hl => match us, hl with | [_, _], _ => rfl
  obtain ⟨fd10, F10⟩ := cd.def_ 9 (d := d10) rfl
  have F10 := HE.fun_of (st := NS.sLeast) F10
  have m10 := He.meth_ok (cd.fact 7 (f := .meth "Space" "least_free") rfl)
  have b10 := F10.binds (ps := ["self"]) fun _ _ _ _ _ _ us hl => match us, hl with | [_], _ => rfl
  obtain ⟨fd11, F11⟩ := cd.def_ 10 (d := d11) rfl
  have F11 := HE.fun_of (st := NS.sShare) F11
  have m11 := He.meth_ok (cd.fact 8 (f := .meth "Space" "share") rfl)
  have b11 := F11.binds (ps := ["self", "block"]) fun _ _ _ _ _ _ us hl => match us, hl with | [_, _], _ => rfl
  obtain ⟨fd12, F12⟩ := cd.def_ 11 (d := d12) rfl
  have F12 := HE.fun_of (st := NS.sDrop) F12
  have m12 := He.meth_ok (cd.fact 9 (f := .meth "Space" "drop") rfl)
  have b12 := F12.binds (ps := ["self", "block"]) fun _ _ _ _ _ _ us hl => match us, hl with | [_, _], _ => rfl
  obtain ⟨fd13, F13⟩ := cd.def_ 12 (d := d13) rfl
  have F13 := HE.fun_of (st := NS.sUses) F13
  have m13 := He.meth_ok (cd.fact 10 (f := .meth "Space" "uses") rfl)
  have b13 := F13.binds (ps := ["self", "block"]) fun _ _ _ _ _ _ us hl => match us, hl with | [_, _], _ => rfl
  obtain ⟨fd14, F14⟩ := cd.def_ 13 (d := d14) rfl
  have F14 := HE.fun_of (st := NS.sNew) F14
  have m14 := He.meth_ok (cd.fact 11 (f := .meth "Space" "is_new") rfl)
  have b14 := F14.binds (ps := ["self", "block"]) fun _ _ _ _ _ _ us hl => match us, hl with | [_, _], _ => rfl
  obtain ⟨fd15, F15⟩ := cd.def_ 14 (d := d15) rfl
  have F15 := HE.fun_of (st := NS.sFree) F15
  have m15 := He.meth_ok (cd.fact 12 (f := .meth "Space" "is_free") rfl)
  have b15 := F15.binds (ps := ["self", "block"]) fun _ _ _ _ _ _ us hl => match us, hl with | [_, _], _ => rfl
  obtain ⟨fd16, F16⟩ := cd.def_ 15 (d := d16) rfl
  have F16 := HE.fun_of (st := NS.sFr) F16
  have m16 := He.meth_ok (cd.fact 13 (f := .meth "Space" "free") rfl)
  have b16 := F16.binds (ps := ["self"]) fun _ _ _ _ _ _ us hl => match us, hl with | [_], _ => rfl
  obtain ⟨fd17, F17⟩ := cd.def_ 16 (d := d17) rfl
  have F17 := HE.fun_of (st := NS.sCu) F17
  have m17 := He.meth_ok (cd.fact 14 (f := .meth "Space" "_count_unused") rfl)
  have b17 := F17.binds (ps := ["self", "held"]) fun _ _ _ _ _ _ us hl => match us, hl with | [_, _], _ => rfl
  obtain ⟨fd18, F18⟩ := cd.def_ 17 (d := d18) rfl
  have F18 := HE.fun_of (st := NS.sCe) F18
  have m18 := He.meth_ok (cd.fact 15 (f := .meth "Space" "_check_exists") rfl)
  have b18 := F18.binds (ps := ["self", "block"]) fun _ _ _ _ _ _ us hl => match us, hl with | [_, _], _ => rfl
  obtain ⟨fd19, F19⟩ := cd.def_ 18 (d := d19) rfl
  have F19 := HE.fun_of (st := NS.sCk) F19
  have m19 := He.meth_ok (cd.fact 16 (f := .meth "Space" "_check_used") rfl)
  have b19 := F19.binds (ps := ["self", "block"]) fun _ _ _ _ _ _ us hl => match us, hl with | [_, _], _ => rfl
  obtain ⟨fd20, F20⟩ := cd.def_ 19 (d := d20) rfl
  have F20 := HE.fun_of (st := NT.sRb) F20
  have m20 := He.glo_ok X G (cd.fact 17 (f := .glo "read_block") rfl)
  have b20 := F20.binds (ps := ["disk", "number"]) fun _ _ _ _ _ _ us hl => match us, hl with | [_, _], _ => rfl
  obtain ⟨fd21, F21⟩ := cd.def_ 20 (d := d21) rfl
  have F21 := HE.fun_of (st := NT.sHin) F21
  have b21 := F21.binds (ps := ["self", "generation", "table", "blocks"]) fun _ _ _ _ _ _ us hl => match us, hl with | [_, _, _, _], _ => rfl
  obtain ⟨fd22, F22⟩ := cd.def_ 21 (d := d22) rfl
  have F22 := HE.fun_of (st := NT.sInit) F22
  have b22 := F22.binds (ps := ["self", "disk", "head", "space"]) fun _ _ _ _ _ _ us hl => match us, hl with | [_, _, _, _], _ => rfl
  obtain ⟨fd23, F23⟩ := cd.def_ 22 (d := d23) rfl
  have F23 := HE.fun_of (st := NT.sUr) F23
  have m23 := He.meth_ok (cd.fact 18 (f := .meth "Store" "use_reserve") rfl)
  have b23 := F23.binds (ps := ["self", "reserve"]) fun _ _ _ _ _ _ us hl => match us, hl with | [_, _], _ => rfl
  obtain ⟨fd24, F24⟩ := cd.def_ 23 (d := d24) rfl
  have F24 := HE.fun_of (st := NT.sGen) F24
  have m24 := He.meth_ok (cd.fact 19 (f := .meth "Store" "generation") rfl)
  have b24 := F24.binds (ps := ["self"]) fun _ _ _ _ _ _ us hl => match us, hl with | [_], _ => rfl
  obtain ⟨fd25, F25⟩ := cd.def_ 24 (d := d25) rfl
  have F25 := HE.fun_of (st := NT.sRead) F25
  have m25 := He.meth_ok (cd.fact 20 (f := .meth "Store" "read") rfl)
  have b25 := F25.binds (ps := ["self", "pointer"]) fun _ _ _ _ _ _ us hl => match us, hl with | [_, _], _ => rfl
  obtain ⟨fd26, F26⟩ := cd.def_ 25 (d := d26) rfl
  have F26 := HE.fun_of (st := NT.sNp) F26
  have m26 := He.meth_ok (cd.fact 21 (f := .meth "Store" "next_pointer") rfl)
  have b26 := F26.binds (ps := ["self"]) fun _ _ _ _ _ _ us hl => match us, hl with | [_], _ => rfl
  obtain ⟨fd27, F27⟩ := cd.def_ 26 (d := d27) rfl
  have F27 := HE.fun_of (st := NT.sMake) F27
  have m27 := He.meth_ok (cd.fact 22 (f := .meth "Store" "make") rfl)
  have b27 := F27.binds (ps := ["self", "words"]) fun _ _ _ _ _ _ us hl => match us, hl with | [_, _], _ => rfl
  obtain ⟨fd28, F28⟩ := cd.def_ 27 (d := d28) rfl
  have F28 := HE.fun_of (st := NT.sNew) F28
  have m28 := He.meth_ok (cd.fact 23 (f := .meth "Store" "is_new") rfl)
  have b28 := F28.binds (ps := ["self", "pointer"]) fun _ _ _ _ _ _ us hl => match us, hl with | [_, _], _ => rfl
  obtain ⟨fd29, F29⟩ := cd.def_ 28 (d := d29) rfl
  have F29 := HE.fun_of (st := NT.sWrite) F29
  have m29 := He.meth_ok (cd.fact 24 (f := .meth "Store" "write") rfl)
  have b29 := F29.binds (ps := ["self", "pointer", "words"]) fun _ _ _ _ _ _ us hl => match us, hl with | [_, _, _], _ => rfl
  obtain ⟨fd30, F30⟩ := cd.def_ 29 (d := d30) rfl
  have F30 := HE.fun_of (st := NT.sShare) F30
  have m30 := He.meth_ok (cd.fact 25 (f := .meth "Store" "share") rfl)
  have b30 := F30.binds (ps := ["self", "pointer"]) fun _ _ _ _ _ _ us hl => match us, hl with | [_, _], _ => rfl
  obtain ⟨fd31, F31⟩ := cd.def_ 30 (d := d31) rfl
  have F31 := HE.fun_of (st := NT.sDrop) F31
  have m31 := He.meth_ok (cd.fact 26 (f := .meth "Store" "drop") rfl)
  have b31 := F31.binds (ps := ["self", "pointer"]) fun _ _ _ _ _ _ us hl => match us, hl with | [_, _], _ => rfl
  obtain ⟨fd32, F32⟩ := cd.def_ 31 (d := d32) rfl
  have F32 := HE.fun_of (st := NT.sUses) F32
  have m32 := He.meth_ok (cd.fact 27 (f := .meth "Store" "uses") rfl)
  have b32 := F32.binds (ps := ["self", "pointer"]) fun _ _ _ _ _ _ us hl => match us, hl with | [_, _], _ => rfl
  obtain ⟨fd33, F33⟩ := cd.def_ 32 (d := d33) rfl
  have F33 := HE.fun_of (st := NT.sReq) F33
  have m33 := He.meth_ok (cd.fact 28 (f := .meth "Store" "require") rfl)
  have b33 := F33.binds (ps := ["self", "many"]) fun _ _ _ _ _ _ us hl => match us, hl with | [_, _], _ => rfl
  obtain ⟨fd34, F34⟩ := cd.def_ 33 (d := d34) rfl
  have F34 := HE.fun_of (st := NT.sFree) F34
  have m34 := He.meth_ok (cd.fact 29 (f := .meth "Store" "free") rfl)
  have b34 := F34.binds (ps := ["self"]) fun _ _ _ _ _ _ us hl => match us, hl with | [_], _ => rfl
  obtain ⟨fd35, F35⟩ := cd.def_ 34 (d := d35) rfl
  have F35 := HE.fun_of (st := ND.sWrite) F35
  have m35 := He.meth_ok (cd.fact 30 (f := .meth "Disk" "write") rfl)
  have b35 := F35.binds (ps := ["self", "sector", "words"]) fun _ _ _ _ _ _ us hl => match us, hl with | [_, _, _], _ => rfl
  obtain ⟨fd36, F36⟩ := cd.def_ 35 (d := d36) rfl
  have F36 := HE.fun_of (st := ND.sFlush) F36
  have m36 := He.meth_ok (cd.fact 31 (f := .meth "Disk" "flush") rfl)
  have b36 := F36.binds (ps := ["self"]) fun _ _ _ _ _ _ us hl => match us, hl with | [_], _ => rfl
  obtain ⟨fd37, F37⟩ := cd.def_ 36 (d := d37) rfl
  have F37 := HE.fun_of (st := ND.sWait) F37
  have m37 := He.meth_ok (cd.fact 32 (f := .meth "Disk" "waiting") rfl)
  have b37 := F37.binds (ps := ["self"]) fun _ _ _ _ _ _ us hl => match us, hl with | [_], _ => rfl
  obtain ⟨fd38, F38⟩ := cd.def_ 37 (d := d38) rfl
  have F38 := HE.fun_of (st := ND.sLast) F38
  have m38 := He.meth_ok (cd.fact 33 (f := .meth "Disk" "lasting") rfl)
  have b38 := F38.binds (ps := ["self"]) fun _ _ _ _ _ _ us hl => match us, hl with | [_], _ => rfl
  obtain ⟨fd39, F39⟩ := cd.def_ 38 (d := d39) rfl
  have F39 := HE.fun_of (st := ND.sSet) F39
  have m39 := He.meth_ok (cd.fact 34 (f := .meth "Disk" "_settle_writes") rfl)
  have b39 := F39.binds (ps := ["self", "choices"]) fun _ _ _ _ _ _ us hl => match us, hl with | [_, _], _ => rfl
  obtain ⟨fd40, F40⟩ := cd.def_ 39 (d := d40) rfl
  have F40 := HE.fun_of (st := NS.sSettle) F40
  have m40 := He.meth_ok (cd.fact 35 (f := .meth "Space" "settle") rfl)
  have b40 := F40.binds (ps := ["self"]) fun _ _ _ _ _ _ us hl => match us, hl with | [_], _ => rfl
  obtain ⟨fd41, F41⟩ := cd.def_ 40 (d := d41) rfl
  have F41 := HE.fun_of (st := NS.sHeld) F41
  have m41 := He.meth_ok (cd.fact 36 (f := .meth "Space" "is_held") rfl)
  have b41 := F41.binds (ps := ["self", "block"]) fun _ _ _ _ _ _ us hl => match us, hl with | [_, _], _ => rfl
  obtain ⟨fd42, F42⟩ := cd.def_ 41 (d := d42) rfl
  have F42 := HE.fun_of (st := NT.sNb) F42
  have m42 := He.meth_ok (cd.fact 37 (f := .meth "Store" "new_blocks") rfl)
  have b42 := F42.binds (ps := ["self"]) fun _ _ _ _ _ _ us hl => match us, hl with | [_], _ => rfl
  obtain ⟨fd43, F43⟩ := cd.def_ 42 (d := d43) rfl
  have F43 := HE.fun_of (st := NT.sUt) F43
  have m43 := He.meth_ok (cd.fact 38 (f := .meth "Store" "use_table") rfl)
  have b43 := F43.binds (ps := ["self", "pointer"]) fun _ _ _ _ _ _ us hl => match us, hl with | [_, _], _ => rfl
  obtain ⟨fd44, F44⟩ := cd.def_ 43 (d := d44) rfl
  have F44 := HE.fun_of (st := NT.sUh) F44
  have m44 := He.meth_ok (cd.fact 39 (f := .meth "Store" "use_head") rfl)
  have b44 := F44.binds (ps := ["self", "head"]) fun _ _ _ _ _ _ us hl => match us, hl with | [_, _], _ => rfl
  obtain ⟨fd45, F45⟩ := cd.def_ 44 (d := d45) rfl
  have F45 := HE.fun_of (st := ND.sPl) F45
  have m45 := He.glo_ok X G (cd.fact 40 (f := .glo "place") rfl)
  have b45 := F45.binds (ps := ["generation"]) fun _ _ _ _ _ _ us hl => match us, hl with | [_], _ => rfl
  obtain ⟨fd46, F46⟩ := cd.def_ 45 (d := d46) rfl
  have F46 := HE.fun_of (st := ND.sLm) F46
  have F46 := HE.funC_of F46
  have m46 := He.glo_ok X G (cd.fact 41 (f := .glo "log_mark") rfl)
  have b46 := F46.fun.binds (ps := ["disk"]) fun _ _ _ _ _ _ us hl => match us, hl with | [_], _ => rfl
  obtain ⟨fd47, F47⟩ := cd.def_ 46 (d := d47) rfl
  have F47 := HE.fun_of (st := sHsec) F47
  have m47 := He.meth_ok (cd.fact 42 (f := .meth "Head" "sector") rfl)
  have b47 := F47.binds (ps := ["self"]) fun _ _ _ _ _ _ us hl => match us, hl with | [_], _ => rfl
  obtain ⟨fd48, F48⟩ := cd.def_ 47 (d := d48) rfl
  have F48 := HE.fun_of (st := sNh) F48
  have m48 := He.glo_ok X G (cd.fact 43 (f := .glo "next_head") rfl)
  have b48 := F48.binds (ps := ["store"]) fun _ _ _ _ _ _ us hl => match us, hl with | [_], _ => rfl
  obtain ⟨fd49, F49⟩ := cd.def_ 48 (d := d49) rfl
  have F49 := HE.fun_of (st := sBst) F49
  have m49 := He.glo_ok X G (cd.fact 44 (f := .glo "block_steps") rfl)
  have b49 := F49.binds (ps := ["store", "number"]) fun _ _ _ _ _ _ us hl => match us, hl with | [_, _], _ => rfl
  obtain ⟨fd50, F50⟩ := cd.def_ 49 (d := d50) rfl
  have F50 := HE.fun_of (st := sCst) F50
  have m50 := He.glo_ok X G (cd.fact 45 (f := .glo "commit_steps") rfl)
  have b50 := F50.binds (ps := ["store"]) fun _ _ _ _ _ _ us hl => match us, hl with | [_], _ => rfl
  obtain ⟨fd51, F51⟩ := cd.def_ 50 (d := d51) rfl
  have F51 := HE.fun_of (st := sCom) F51
  have m51 := He.glo_ok X G (cd.fact 46 (f := .glo "commit") rfl)
  have b51 := F51.binds (ps := ["store"]) fun _ _ _ _ _ _ us hl => match us, hl with | [_], _ => rfl
  obtain ⟨fd52, F52⟩ := cd.def_ 51 (d := d52) rfl
  have F52 := HE.fun_of (st := sTape) F52
  have m52 := He.glo_ok X G (cd.fact 47 (f := .glo "_law_tape") rfl)
  have b52 := F52.binds (ps := ["script"]) fun _ _ _ _ _ _ us hl => match us, hl with | [_], _ => rfl
  obtain ⟨fd53, F53⟩ := cd.def_ 52 (d := d53) rfl
  have F53 := HE.fun_of (st := sAt) F53
  have m53 := He.glo_ok X G (cd.fact 48 (f := .glo "_law_at") rfl)
  have b53 := F53.binds (ps := ["tape", "k"]) fun _ _ _ _ _ _ us hl => match us, hl with | [_, _], _ => rfl
  obtain ⟨fd54, F54⟩ := cd.def_ 53 (d := d54) rfl
  have F54 := HE.fun_of (st := sLb) F54
  have m54 := He.glo_ok X G (cd.fact 49 (f := .glo "_law_block") rfl)
  have b54 := F54.binds (ps := ["number", "extra"]) fun _ _ _ _ _ _ us hl => match us, hl with | [_, _], _ => rfl
  obtain ⟨fd55, F55⟩ := cd.def_ 54 (d := d55) rfl
  have F55 := HE.fun_of (st := sLib) F55
  have m55 := He.glo_ok X G (cd.fact 50 (f := .glo "_law_is_block") rfl)
  have b55 := F55.binds (ps := ["told", "due"]) fun _ _ _ _ _ _ us hl => match us, hl with | [_, _], _ => rfl
  obtain ⟨fd56, F56⟩ := cd.def_ 55 (d := d56) rfl
  have F56 := HE.fun_of (st := sLpb) F56
  have m56 := He.glo_ok X G (cd.fact 51 (f := .glo "_law_put_block") rfl)
  have b56 := F56.binds (ps := ["disk", "number", "words"]) fun _ _ _ _ _ _ us hl => match us, hl with | [_, _, _], _ => rfl
  obtain ⟨fd57, F57⟩ := cd.def_ 56 (d := d57) rfl
  have F57 := HE.fun_of (st := sLst) F57
  have m57 := He.glo_ok X G (cd.fact 52 (f := .glo "_law_store") rfl)
  have b57 := F57.binds (ps := ["tape", "generation"]) fun _ _ _ _ _ _ us hl => match us, hl with | [_, _], _ => rfl
  obtain ⟨fd58, F58⟩ := cd.def_ 57 (d := d58) rfl
  have F58 := HE.fun_of (st := sLwk) F58
  have m58 := He.glo_ok X G (cd.fact 53 (f := .glo "_law_work") rfl)
  have b58 := F58.binds (ps := ["store", "tape", "start", "many"]) fun _ _ _ _ _ _ us hl => match us, hl with | [_, _, _, _], _ => rfl
  obtain ⟨fd59, F59⟩ := cd.def_ 58 (d := d59) rfl
  have F59 := HE.fun_of (st := sLdu) F59
  have m59 := He.glo_ok X G (cd.fact 54 (f := .glo "_law_due") rfl)
  have b59 := F59.binds (ps := ["store", "contents", "generation", "mark"]) fun _ _ _ _ _ _ us hl => match us, hl with | [_, _, _, _], _ => rfl
  obtain ⟨fd60, F60⟩ := cd.def_ 59 (d := d60) rfl
  have F60 := HE.fun_of (st := sLaf) F60
  have m60 := He.glo_ok X G (cd.fact 55 (f := .glo "_law_after") rfl)
  have b60 := F60.binds (ps := ["image", "steps"]) fun _ _ _ _ _ _ us hl => match us, hl with | [_, _], _ => rfl
  obtain ⟨fd61, F61⟩ := cd.def_ 60 (d := d61) rfl
  have F61 := HE.fun_of (st := sLse) F61
  have m61 := He.glo_ok X G (cd.fact 56 (f := .glo "_law_settled") rfl)
  have b61 := F61.binds (ps := ["store", "numbers"]) fun _ _ _ _ _ _ us hl => match us, hl with | [_, _], _ => rfl
  obtain ⟨fd62, F62⟩ := cd.def_ 61 (d := d62) rfl
  have F62 := HE.fun_of (st := sLaw) F62
  have m62 := He.glo_ok X G (cd.fact 57 (f := .glo "law") rfl)
  have bl := HE.binds1 (y := "script") F62 fun _ _ _ _ _ _ _ => rfl
  have e := hfa.symm.trans m62
  cases e
  have clD := He.cls_ok (cd.fact 86 (f := .cls "Disk") rfl)
  have n0D := He.noat_ok (cd.fact 88 (f := .noat "Disk" "blocks") rfl)
  have n1D := He.noat_ok (cd.fact 89 (f := .noat "Disk" "_kept") rfl)
  have n2D := He.noat_ok (cd.fact 90 (f := .noat "Disk" "_shown") rfl)
  have n3D := He.noat_ok (cd.fact 91 (f := .noat "Disk" "_writes") rfl)
  have n4D := He.noat_ok (cd.fact 92 (f := .noat "Disk" "_powered") rfl)
  have n5D := He.noat_ok (cd.fact 93 (f := .noat "Disk" "_before_failure") rfl)
  have mgD := He.glo_ok X G (cd.fact 85 (f := .glo "Disk") rfl)
  have MD := He.mkr_ok (cd.fact 94 (f := .mkr "Disk") rfl)
  have clS := He.cls_ok (cd.fact 96 (f := .cls "Space") rfl)
  have n0S := He.noat_ok (cd.fact 98 (f := .noat "Space" "blocks") rfl)
  have n1S := He.noat_ok (cd.fact 99 (f := .noat "Space" "_counts") rfl)
  have n2S := He.noat_ok (cd.fact 100 (f := .noat "Space" "_held") rfl)
  have mgS := He.glo_ok X G (cd.fact 95 (f := .glo "Space") rfl)
  have MS := He.mkr_ok (cd.fact 101 (f := .mkr "Space") rfl)
  have clH := He.cls_ok (cd.fact 103 (f := .cls "Head") rfl)
  have n0H := He.noat_ok (cd.fact 105 (f := .noat "Head" "generation") rfl)
  have n1H := He.noat_ok (cd.fact 106 (f := .noat "Head" "table") rfl)
  have n2H := He.noat_ok (cd.fact 107 (f := .noat "Head" "blocks") rfl)
  have mgH := He.glo_ok X G (cd.fact 102 (f := .glo "Head") rfl)
  have MH := He.mkr_ok (cd.fact 108 (f := .mkr "Head") rfl)
  have clT := He.cls_ok (cd.fact 110 (f := .cls "Store") rfl)
  have n0T := He.noat_ok (cd.fact 112 (f := .noat "Store" "disk") rfl)
  have n1T := He.noat_ok (cd.fact 113 (f := .noat "Store" "head") rfl)
  have n2T := He.noat_ok (cd.fact 114 (f := .noat "Store" "space") rfl)
  have n3T := He.noat_ok (cd.fact 115 (f := .noat "Store" "table") rfl)
  have n4T := He.noat_ok (cd.fact 116 (f := .noat "Store" "reserve") rfl)
  have n5T := He.noat_ok (cd.fact 117 (f := .noat "Store" "_memory") rfl)
  have mgT := He.glo_ok X G (cd.fact 109 (f := .glo "Store") rfl)
  have MT := He.mkr_ok (cd.fact 118 (f := .mkr "Store") rfl)
  have ex := c.more
  unfold exL at ex
  obtain ⟨xdN, ex⟩ := He.ba ex
  obtain ⟨xdS, ex⟩ := He.ba ex
  obtain ⟨xdO, ex⟩ := He.ba ex
  have XN := HE.xc_of X G (cd.fact 119 (f := .glo "NotValid") rfl) (cd.fact 120 (f := .exc "NotValid") rfl) xdN
  have XS := HE.xc_of X G (cd.fact 121 (f := .glo "NoSpace") rfl) (cd.fact 122 (f := .exc "NoSpace") rfl) xdS
  have XO := HE.xc_of X G (cd.fact 123 (f := .glo "PowerOff") rfl) (cd.fact 124 (f := .exc "PowerOff") rfl) xdO
  obtain ⟨wt, hwt⟩ := He.str_ok X G (cd.fact 83 (f := .str "WRITE" "write") rfl)
  obtain ⟨ft, hft⟩ := He.str_ok X G (cd.fact 84 (f := .str "FLUSH" "flush") rfl)
  have T : NT.Txt mg := ⟨He.free_ok X G (cd.fact 58 (f := .free "len") rfl), He.free_ok X G (cd.fact 59 (f := .free "range") rfl), He.free_ok X G (cd.fact 60 (f := .free "list") rfl), He.free_ok X G (cd.fact 61 (f := .free "tuple") rfl), He.free_ok X G (cd.fact 62 (f := .free "sorted") rfl), He.free_ok X G (cd.fact 63 (f := .free "isinstance") rfl), He.free_ok X G (cd.fact 64 (f := .free "abs") rfl), He.free_ok X G (cd.fact 65 (f := .free "int") rfl), He.free_ok X G (cd.fact 66 (f := .free "bool") rfl), He.free_ok X G (cd.fact 67 (f := .free "min") rfl), He.free_ok X G (cd.fact 68 (f := .free "max") rfl), He.int_ok X G (cd.fact 72 (f := .int "BLOCK_WORDS" 32) rfl), He.int_ok X G (cd.fact 73 (f := .int "BLOCK_SECTORS" 4) rfl), He.int_ok X G (cd.fact 74 (f := .int "FIRST_BLOCK" 5) rfl), He.int_ok X G (cd.fact 75 (f := .int "ADD" 60) rfl)⟩
  have TD : ND.Txt mg K (He.ga K "Disk") := ⟨T.len, T.range, T.list, T.isinstance, He.free_ok X G (cd.fact 69 (f := .free "zip") rfl), T.int, T.bool, He.free_ok X G (cd.fact 70 (f := .free "all") rfl), He.int_ok X G (cd.fact 76 (f := .int "MIN_BLOCKS" 96) rfl), He.int_ok X G (cd.fact 77 (f := .int "MAX_BLOCKS" 256) rfl), He.int_ok X G (cd.fact 78 (f := .int "SECTOR_WORDS" 8) rfl), T.gBLOCK_SECTORS, clD, n0D, n1D, n2D, n3D, n4D, n5D, mgD⟩
  have TS : NS.Txt mg K (He.ga K "Space") := ⟨T.len, T.range, T.list, T.isinstance, TD.zip, T.int, T.bool, T.gFIRST_BLOCK, clS, n0S, n1S, n2S, mgS⟩
  have TT : NT.TxT mg K (He.ga K "Store") := ⟨clT, n0T, n1T, n2T, n3T, n4T, n5T, mgT⟩
  have TH : NT.TxH mg K (He.ga K "Head") := ⟨clH, n0H, n1H, n2H, mgH⟩
  have tDict := He.free_ok X G (cd.fact 71 (f := .free "dict") rfl)
  have tSW := He.int_ok X G (cd.fact 78 (f := .int "SECTOR_WORDS" 8) rfl)
  have tLB := He.int_ok X G (cd.fact 79 (f := .int "LOG_BLOCKS" 4) rfl)
  have tFS := He.int_ok X G (cd.fact 80 (f := .int "FIRST_SECTOR" 4) rfl)
  have tLW := He.int_ok X G (cd.fact 81 (f := .int "LAST_WORD" 7) rfl)
  have tLS := He.int_ok X G (cd.fact 82 (f := .int "LOG_SECTORS" 16) rfl)
  have tBS := T.gBLOCK_SECTORS
  refine ⟨fd62, [He.cT K ("are_words", none), He.cT K ("log_mark", none)], spLaw K (He.cT K ("are_words", none)).2 (He.cT K ("log_mark", none)).2, fun p hp => ?_, bl, fun H a ns hl hT hS Q q => ⟨a, ns, rfl, hS, hl, hT (He.cT K ("are_words", none)) (by simp), hT (He.cT K ("log_mark", none)) (by simp), fun H' h0 h1 => q H' fun p hp => ?_⟩, fun base hKb hGb hTB => ?_⟩
  · obtain ⟨t, ht, rfl⟩ : ∃ t ∈ tfL, He.cT K t = p := by
      simp only [List.mem_cons, List.not_mem_nil, or_false] at hp
      rcases hp with hp | hp
      · exact ⟨("are_words", none), by simp [tfL], hp.symm⟩
      · exact ⟨("log_mark", none), by simp [tfL], hp.symm⟩
    exact ⟨c.empty t ht, c.out t ht, PySem.W.codeHd_of_K X (c.hd t ht)⟩
  · simp only [List.mem_cons, List.not_mem_nil, or_false] at hp
    rcases hp with rfl | rfl
    · exact h0
    · exact h1
  · have B1 : LamX.TabB base mg (He.codeOf K ("are_words", none)) (He.cT K ("are_words", none)).2 := hTB (He.cT K ("are_words", none)) (by simp)
    have B2 : LamX.TabB base mg (He.codeOf K ("log_mark", none)) (He.cT K ("log_mark", none)).2 := hTB (He.cT K ("log_mark", none)) (by simp)
    exact (have GND_ok_iw := ND.ok_iw (P := l.prog) (w := w) (base := base) F1 TD; have GND_ok_are := ND.ok_are (P := l.prog) (w := w) (base := base) F2 B1 TD F1 b1 m1; have GND_ok_size := ND.ok_size (P := l.prog) (w := w) (base := base) F3 F1 b1 m1 TD; have GND_ok_sec := ND.ok_sec (P := l.prog) (w := w) (base := base) F6 F1 b1 m1 TD; have GND_ok_beg := ND.ok_beg (P := l.prog) (w := w) (base := base) F7 TD XO; have GND_ok_read := ND.ok_read (P := l.prog) (w := w) (base := base) F5 GND_ok_sec b6 m6 TD XO XN; have GND_ok_write := ND.ok_write (P := l.prog) (w := w) (base := base) F35 GND_ok_sec b6 m6 F2.fun GND_ok_are b2 m2 GND_ok_beg b7 m7 TD XN; have GND_ok_set := ND.ok_set (P := l.prog) (w := w) (base := base) F39 TD; have GND_ok_flush := ND.ok_flush (P := l.prog) (w := w) (base := base) F36 GND_ok_beg b7 m7 GND_ok_set b39 m39 TD; have GND_ok_wait := ND.ok_wait (P := l.prog) (w := w) (base := base) F37 TD; have GND_ok_init := ND.ok_init (P := l.prog) (w := w) (base := base) F4 F3 GND_ok_size b3 m3 TD XN; have GND_ok_last := ND.ok_last (P := l.prog) (w := w) (base := base) F38 TD; have GND_ok_pl := ND.ok_pl (P := l.prog) (w := w) (base := base) F45 TD; have GND_ok_lm := ND.ok_lm (P := l.prog) (w := w) (base := base) F46 B2 GND_ok_read b5 m5 T TD tFS tLW tLS; have GNS_ok_iw := NS.ok_iw (P := l.prog) (w := w) (base := base) F1 TS; have GNS_ok_ce := NS.ok_ce (P := l.prog) (w := w) (base := base) F18 F1 b1 m1 TS XN; have GNS_ok_ck := NS.ok_ck (P := l.prog) (w := w) (base := base) F19 GNS_ok_ce b18 m18 TS XN; have GNS_ok_uses := NS.ok_uses (P := l.prog) (w := w) (base := base) F13 GNS_ok_ce b18 m18 TS; have GNS_ok_isnew := NS.ok_isnew (P := l.prog) (w := w) (base := base) F14 GNS_ok_uses b13 m13 TS; have GNS_ok_isfree := NS.ok_isfree (P := l.prog) (w := w) (base := base) F15 GNS_ok_uses b13 m13 TS; have GNS_ok_cu := NS.ok_cu (P := l.prog) (w := w) (base := base) F17 TS; have GNS_ok_free := NS.ok_free (P := l.prog) (w := w) (base := base) F16 GNS_ok_cu b17 m17 TS; have GNS_ok_least := NS.ok_least (P := l.prog) (w := w) (base := base) F10 GNS_ok_isfree b15 m15 TS; have GNS_ok_take := NS.ok_take (P := l.prog) (w := w) (base := base) F9 GNS_ok_free b16 m16 GNS_ok_least b10 m10 TS XS; have GNS_ok_share := NS.ok_share (P := l.prog) (w := w) (base := base) F11 GNS_ok_ck b19 m19 TS; have GNS_ok_drop := NS.ok_drop (P := l.prog) (w := w) (base := base) F12 GNS_ok_ck b19 m19 TS; have GNS_ok_init := NS.ok_init (P := l.prog) (w := w) (base := base) F8 TS; have GNS_ok_settle := NS.ok_settle (P := l.prog) (w := w) (base := base) F40 TS; have GNS_ok_isheld := NS.ok_isheld (P := l.prog) (w := w) (base := base) F41 GNS_ok_ce b18 m18 TS; have GNT_ok_rb := NT.ok_rb (P := l.prog) (w := w) (base := base) (c := ⟨He.ga K "Store", He.ga K "Head", He.ga K "Space", He.ga K "Disk"⟩) F20 GND_ok_read b5 m5 T TD; have GNT_ok_gen := NT.ok_gen (P := l.prog) (w := w) (base := base) (c := ⟨He.ga K "Store", He.ga K "Head", He.ga K "Space", He.ga K "Disk"⟩) F24 TT TH; have GNT_ok_free := NT.ok_free (P := l.prog) (w := w) (base := base) (c := ⟨He.ga K "Store", He.ga K "Head", He.ga K "Space", He.ga K "Disk"⟩) F34 GNS_ok_free b16 m16 TT TS; have GNT_ok_sread := NT.ok_sread (P := l.prog) (w := w) (base := base) (c := ⟨He.ga K "Store", He.ga K "Head", He.ga K "Space", He.ga K "Disk"⟩) F25 F1 b1 m1 F20 GNT_ok_rb b20 m20 T TT TS TD XN; have GNT_ok_snew := NT.ok_snew (P := l.prog) (w := w) (base := base) (c := ⟨He.ga K "Store", He.ga K "Head", He.ga K "Space", He.ga K "Disk"⟩) F28 GNS_ok_isnew b14 m14 GNS_ok_uses b13 m13 TT TS; have GNT_ok_suses := NT.ok_suses (P := l.prog) (w := w) (base := base) (c := ⟨He.ga K "Store", He.ga K "Head", He.ga K "Space", He.ga K "Disk"⟩) F32 GNS_ok_uses b13 m13 TT TS; have GNT_ok_ur := NT.ok_ur (P := l.prog) (w := w) (base := base) (c := ⟨He.ga K "Store", He.ga K "Head", He.ga K "Space", He.ga K "Disk"⟩) F23 TT; have GNT_ok_sshare := NT.ok_sshare (P := l.prog) (w := w) (base := base) (c := ⟨He.ga K "Store", He.ga K "Head", He.ga K "Space", He.ga K "Disk"⟩) F30 GNS_ok_share b11 m11 TT TS; have GNT_ok_sdrop := NT.ok_sdrop (P := l.prog) (w := w) (base := base) (c := ⟨He.ga K "Store", He.ga K "Head", He.ga K "Space", He.ga K "Disk"⟩) F31 GNS_ok_drop b12 m12 TT TS; have GNT_ok_make := NT.ok_make (P := l.prog) (w := w) (base := base) (c := ⟨He.ga K "Store", He.ga K "Head", He.ga K "Space", He.ga K "Disk"⟩) F27 F2.fun GND_ok_are b2 m2 GNS_ok_take b9 m9 GNT_ok_gen b24 m24 T TT TS XN; have GNT_ok_swrite := NT.ok_swrite (P := l.prog) (w := w) (base := base) (c := ⟨He.ga K "Store", He.ga K "Head", He.ga K "Space", He.ga K "Disk"⟩) F29 F2.fun GND_ok_are b2 m2 GNT_ok_snew b28 m28 T TT XN; have GNT_ok_nb := NT.ok_nb (P := l.prog) (w := w) (base := base) (c := ⟨He.ga K "Store", He.ga K "Head", He.ga K "Space", He.ga K "Disk"⟩) F42 T TT; have GNT_ok_hin := NT.ok_hin (P := l.prog) (w := w) (base := base) (c := ⟨He.ga K "Store", He.ga K "Head", He.ga K "Space", He.ga K "Disk"⟩) F21 TH; have GNT_ok_tin := NT.ok_tin (P := l.prog) (w := w) (base := base) (c := ⟨He.ga K "Store", He.ga K "Head", He.ga K "Space", He.ga K "Disk"⟩) F22 T TT TH; have GNT_ok_ut := NT.ok_ut (P := l.prog) (w := w) (base := base) (c := ⟨He.ga K "Store", He.ga K "Head", He.ga K "Space", He.ga K "Disk"⟩) F43 TT; have GNT_ok_uh := NT.ok_uh (P := l.prog) (w := w) (base := base) (c := ⟨He.ga K "Store", He.ga K "Head", He.ga K "Space", He.ga K "Disk"⟩) F44 GNS_ok_settle b40 m40 TT TS; have GK24_ok_tape := K24.ok_tape (P := l.prog) (w := w) (base := base) F52 T; have GK24_ok_at := K24.ok_at (P := l.prog) (w := w) (base := base) F53 T; have GK24_ok_lb := K24.ok_lb (P := l.prog) (w := w) (base := base) F54 T; have GK24_ok_lpb := K24.ok_lpb (P := l.prog) (w := w) (base := base) (c := ⟨He.ga K "Store", He.ga K "Head", He.ga K "Space", He.ga K "Disk"⟩) F56 GND_ok_write b35 m35 T TD; have GK24_ok_lst24 := K24.ok_lst24 (P := l.prog) (w := w) (base := base) (c := ⟨He.ga K "Store", He.ga K "Head", He.ga K "Space", He.ga K "Disk"⟩) F57 F53 GK24_ok_at b53 m53 F54 GK24_ok_lb b54 m54 F56 GK24_ok_lpb b56 m56 MD GND_ok_init b4 MH GNT_ok_hin b21 MS GNS_ok_init b8 MT GNT_ok_tin b22 GNT_ok_ur b23 m23 GND_ok_write b35 m35 GND_ok_flush b36 m36 T TT TH TS TD; have GK24_ok_lwk := K24.ok_lwk (P := l.prog) (w := w) (base := base) (c := ⟨He.ga K "Store", He.ga K "Head", He.ga K "Space", He.ga K "Disk"⟩) F58 F53 GK24_ok_at b53 m53 F54 GK24_ok_lb b54 m54 GNT_ok_make b27 m27 GNT_ok_swrite b29 m29 GNT_ok_snew b28 m28 GNT_ok_suses b32 m32 GNT_ok_sdrop b31 m31 GNT_ok_sshare b30 m30 T TT; have GK24_ok_bst := K24.ok_bst (P := l.prog) (w := w) (base := base) (c := ⟨He.ga K "Store", He.ga K "Head", He.ga K "Space", He.ga K "Disk"⟩) F49 GNT_ok_sread b25 m25 GNT_ok_gen b24 m24 T TT tSW tBS ⟨wt, hwt⟩; have GK24_ok_hsec := K24.ok_hsec (P := l.prog) (w := w) (base := base) (c := ⟨He.ga K "Store", He.ga K "Head", He.ga K "Space", He.ga K "Disk"⟩) F47 TH tLB; have GK24_ok_nh := K24.ok_nh (P := l.prog) (w := w) (base := base) (c := ⟨He.ga K "Store", He.ga K "Head", He.ga K "Space", He.ga K "Disk"⟩) F48 MH GNT_ok_hin b21 GNT_ok_gen b24 m24 TT TH TD; have GK24_ok_cst := K24.ok_cst (P := l.prog) (w := w) (base := base) (c := ⟨He.ga K "Store", He.ga K "Head", He.ga K "Space", He.ga K "Disk"⟩) F50 F46.fun GND_ok_lm b46 m46 F49 GK24_ok_bst b49 m49 F48 GK24_ok_nh b48 m48 F45 GND_ok_pl b45 m45 GK24_ok_hsec b47 m47 GNT_ok_nb b42 m42 T TT TH ⟨wt, hwt⟩ ⟨ft, hft⟩; have GK24_ok_com := K24.ok_com (P := l.prog) (w := w) (base := base) (c := ⟨He.ga K "Store", He.ga K "Head", He.ga K "Space", He.ga K "Disk"⟩) F51 F50 GK24_ok_cst b50 m50 F48 GK24_ok_nh b48 m48 GND_ok_write b35 m35 GND_ok_flush b36 m36 GNT_ok_uh b44 m44 T TT TH TD ⟨wt, hwt⟩; have GK24_ok_ldu := K24.ok_ldu (P := l.prog) (w := w) (base := base) (c := ⟨He.ga K "Store", He.ga K "Head", He.ga K "Space", He.ga K "Disk"⟩) F59 T TT; have GK24_ok_laf := K24.ok_laf (P := l.prog) (w := w) (base := base) F60 T; have GK24_ok_lse := K24.ok_lse (P := l.prog) (w := w) (base := base) (c := ⟨He.ga K "Store", He.ga K "Head", He.ga K "Space", He.ga K "Disk"⟩) F61 GNT_ok_suses b32 m32 GNT_ok_snew b28 m28 GNS_ok_isheld b41 m41 GNT_ok_nb b42 m42 GNT_ok_free b34 m34 T TT TS; have GK24_ok_lib := K24.ok_lib (P := l.prog) (w := w) (base := base) F55 T; K24.ok_law (P := l.prog) (w := w) (base := base) (c := ⟨He.ga K "Store", He.ga K "Head", He.ga K "Space", He.ga K "Disk"⟩) F62 F52 GK24_ok_tape b52 m52 F53 GK24_ok_at b53 m53 F57 GK24_ok_lst24 b57 m57 F58 GK24_ok_lwk b58 m58 F59 GK24_ok_ldu b59 m59 F50 GK24_ok_cst b50 m50 F51 GK24_ok_com b51 m51 F60 GK24_ok_laf b60 m60 F61 GK24_ok_lse b61 m61 F55 GK24_ok_lib b55 m55 GND_ok_write b35 m35 GND_ok_flush b36 m36 GNT_ok_suses b32 m32 GNT_ok_sread b25 m25 GNT_ok_nb b42 m42 GND_ok_last b38 m38 GND_ok_wait b37 m37 GNT_ok_ut b43 m43 GNT_ok_gen b24 m24 T TT TH TD)
end K24
open PySem PySem.W PySem.Calls PyProof.Rows
set_option maxHeartbeats 0 in
theorem PySem.Challenge.cw_laminae_k59_commit_steps_holds : PySem.Challenge.rw_laminae_k59_commit_steps.Holds := by
  w_on; o_law
  refine HandSHeadRun.head_any (r := OpenLaw.row PySem.Challenge.rw_laminae_k59_commit_steps) (q := view (OpenLaw.row PySem.Challenge.rw_laminae_k59_commit_steps).prog [50]) (H := NH.hk) (ob := NH.ob) (M := 7000) (loose := NH.looseL) (d := HandSHeadRun.topDef (OpenLaw.row PySem.Challenge.rw_laminae_k59_commit_steps).prog 50) (kwd := []) NH.ob_eq
    (by kernel_rfl) (fun s => by kernel_rfl) NH.run (by kernel_rfl) (by kernel_rfl) (by kernel_rfl) (by rfl) (by first | assumption | decide +kernel) (by decide +kernel) ⟨rfl, rfl, rfl, rfl, rfl, by decide +kernel⟩ ?hw ?hc
  case hw => w_witness2
  case hc =>
    refine HE.walk_facts (l := PySem.Challenge.rw_laminae_k59_commit_steps) (n := 63) (k := 9) (x := "script") rfl (by decide) (by kernel_rfl) ⟨rfl, by decide, by decide⟩ ?F
    intro w mg fa h Y G hmg0
    obtain ⟨K, KX, c⟩ := Y
    have hmg : mg ("law" : PySem.Str) = some (.ref fa) := by
      have e : (HandSHeadRun.topDef (OpenLaw.row PySem.Challenge.rw_laminae_k59_commit_steps).prog 50).name = ("law" : PySem.Str) := by kernel_rfl
      rw [← e]
      exact hmg0
    obtain ⟨fd, cs, sp, h1, h2, h3, h4⟩ := K24.facts (l := PySem.Challenge.rw_laminae_k59_commit_steps) KX G hmg c
    exact ⟨K, fd, cs, sp, KX, h1, h2, h3, h4⟩

