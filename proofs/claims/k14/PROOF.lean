import PyProof.Rows.All
import Wide.All
import OpenK.AllK
import Wide.FinOn
import HandS.ForMost
import HandS.Evl
import HandS.TupLe
import HandS.IsInst
import HandS.AnyAll
import HandS.EndOwn
import HandS.StrMore
import HandS.Conv
import HandS.Sort
import HandS.Star
import HandS.WordsExc
import HandS.ExcIs
import HandS.Wide
import HandS.ExcOwn
import HandS.TryOnly
import KE.KStateDown
import Lean
import HandS.Defaults
import HandS.Head0
import HandS.Head1
import HandS.Head2
import HandS.Head3
import HandS.HeadEnd
import HandS.HeadHook1
import HandS.HeadHook2
import HandS.HeadHook3
import HandS.HeadHook4
import HandS.HeadWalk
import HandS.Lambda
import HandS.EndTab
import PySem.Challenge.RW_laminae_k14_whole_tree_stays_balanced
import HandS.GenList
import HandS.HotCalls
import HandS.Walk
import PyProof.WalksPairs
import KE.GoesZip
import KE.GoesMore
import KE.KTurns
import KE.KUnpackStar
import HandS.More
import HandS.Flow
import KE.SortData
import HandS.SortOrd
import KE.KRevSl
import HandS.Deep
set_option Elab.async false
set_option linter.all false
set_option maxRecDepth 100000
set_option maxHeartbeats 4000000
namespace LT
open PySem PySem.Spec PyProof.Rows L2 Evl
/-! ### the table of a code object: whatever it holds -/
def TabPhi (P : Addr) (h : Heap) : Prop := ∃ ps : Array Value, h.get? P = some { cls := .none, data := .fields ps } ∧ TriplesOk ps.toList
def Tab (H : Hp) (P : Addr) : Prop := H P = some (.ext (TabPhi P))
theorem tab_stab (P : Addr) : ∀ h1 h2 : Heap, TabPhi P h1 → (∀ o, h1.get? P = some o → h2.get? P = some o) → TabPhi P h2 := fun _ _ ⟨ps, e, t⟩ k => ⟨ps, k _ e, t⟩
theorem tab_ok {p : Program} {w : World} {H : Hp} {h : Heap} {P : Addr} (t : TabPhi P h) : ObjOk p w H h P (.ext (TabPhi P)) := ⟨t, ⟨_, t.choose_spec.1⟩, tab_stab P⟩
theorem Tab.of_ok {p : Program} {w : World} {H : Hp} {h : Heap} {P : Addr} (t : Tab H P) (ok : HOk p w H h) : TabPhi P h := (ok P _ t).1
theorem Tab.mono {H H' : Hp} {P : Addr} (e : Ex H H') (t : Tab H P) : Tab H' P := e _ _ t
open Classical in
def extH (Ps : List Addr) (H : Hp) : Hp := fun b => if b ∈ Ps then some (.ext (TabPhi b)) else H b
theorem extH_in {Ps : List Addr} {H : Hp} {b : Addr} (h : b ∈ Ps) : extH Ps H b = some (.ext (TabPhi b)) := if_pos h
theorem extH_out {Ps : List Addr} {H : Hp} {b : Addr} (h : b ∉ Ps) : extH Ps H b = H b := if_neg h
/-- a promise over heaps whose tables are opaque, for a caller whose tables are all empty -/
def spExt (Ps : List Addr) (sp : Sp) : Sp := fun vs H Q E => (∀ p ∈ Ps, H p = some (.tbl #[])) ∧ sp vs (extH Ps H) (fun v H' => (∀ p ∈ Ps, Tab H' p) ∧ ∀ H2, Q v H2) E
section
variable {P : Program} {w : World} {K : PySem.W.Frag} {mg : Str → Option Value} {base : Heap}
theorem ok_ext {Ps : List Addr} {k : Nat} {f : Addr} {fd : FuncData} {ps : List Str} {sp : Sp} (F : FnOk P w K mg base CX0 k f fd ps sp) : FnOk P w K mg base CX0 k f fd ps (spExt Ps sp) := by
  refine ⟨fun vs H Q E h => F.len _ _ _ _ h.2, fun A outer s H args us vs Q E hr e0 hb hv ⟨hT, hs⟩ => ?_⟩
  have none_ : ∀ {b : Addr}, H b = none → extH Ps H b = none := fun {b} n => by
    rw [extH_out fun hb => by rw [hT b hb] at n; cases n]
    exact n
  have same : ∀ {b : Addr} {u : HO}, H b = some u → (∀ q, u ≠ .tbl q) → extH Ps H b = some u := fun {b u} e n => by
    rw [extH_out fun hb => by rw [hT b hb] at e; exact n _ (Option.some.inj e).symm]
    exact e
  have ok1 : HOk P w (extH Ps H) s.heap := fun b u e => by
    by_cases hb : b ∈ Ps
    · rw [extH_in hb] at e
      cases e
      exact tab_ok ⟨#[], e0.hok b _ (hT b hb), by simp [TriplesOk]⟩
    · rw [extH_out hb] at e
      exact (e0.hok b u e).stay (fun _ _ _ q => q) (fun c q => same q (fun z y => by cases y)) fun c xs q => same q (fun z y => by cases y)
  have e1 : Env0 P w K mg base A outer s (extH Ps H) := ⟨e0.frames, e0.mod, fun b o e => ⟨(e0.bs b o e).1, none_ (e0.bs b o e).2⟩, e0.bsz, e0.funs, fun b hb => none_ (e0.frf b hb), ok1, e0.bare⟩
  refine codeAny_mono (F.run A outer s (extH Ps H) args us vs _ E hr e1 hb hv hs) fun r s' h => ?_
  cases r with
  | error e => exact h.elim
  | ok fl =>
    cases fl with
    | next => exact h
    | brk => exact h
    | cont => exact h
    | ret u =>
      obtain ⟨v, H', os, bare, un, ok', rv, hTab, q⟩ := h
      have more : ∀ p ∈ Ps, TabPhi p s'.heap := fun p hp => (hTab p hp).of_ok ok'
      let H2 : Hp := fun b => if hb : b ∈ Ps then some (.tbl (more b hb).choose) else H' b
      have hin : ∀ {b : Addr} (hb : b ∈ Ps), H2 b = some (.tbl (more b hb).choose) := fun {b} hb => dif_pos hb
      have hout : ∀ {b : Addr}, b ∉ Ps → H2 b = H' b := fun {b} hb => dif_neg hb
      have keepH : ∀ {b : Addr} {u : HO}, H' b = some u → (∀ φ, u ≠ .ext φ) → H2 b = some u := fun {b u} e n => by
        rw [hout fun hb => by rw [hTab b hb] at e; exact n _ (Option.some.inj e).symm]
        exact e
      refine ⟨v, H2, os, bare, ⟨fun b o e n => un.keep b o e (none_ n), fun b o e n => un.slot b o e (none_ n), fun b o e n hx => ?_, un.there, fun b xs e => ?_, fun b o x e => ?_, fun b q e => ?_⟩, fun b y e => ?_, rv, q H2⟩
      · have n' := none_ n
        rw [hout fun hb => by rw [hT b hb] at n; cases n]
        exact un.free b o e n' hx
      · exact keepH (un.tups b xs (same e (fun z y => by cases y))) (fun z y => by cases y)
      · exact keepH (un.frzs b o x (same e (fun z y => by cases y))) (fun z y => by cases y)
      · by_cases hb : b ∈ Ps
        · rw [hT b hb] at e
          cases e
          exact ⟨(more b hb).choose, by rw [hin hb, Array.empty_append]⟩
        · obtain ⟨m, z⟩ := un.tbls b q (by rw [extH_out hb]; exact e)
          exact ⟨m, by rw [hout hb]; exact z⟩
      · by_cases hb : b ∈ Ps
        · rw [hin hb] at e
          cases e
          exact (more b hb).choose_spec.1
        · rw [hout hb] at e
          exact (ok' b y e).stay (fun _ _ _ q => q) (fun c q => keepH q (fun z y => by cases y)) fun c xs q => keepH q (fun z y => by cases y)
end
/-- the law's walk where top-level defs (names) hold generator expressions: their tables are empty at the start -/
theorem walk_tabs {l : PySem.W.OpenLaw} {n k : Nat} {q : Program} {loose : List Str} {XP : (Str → Option Value) → Heap → Prop} {YP : World → Heap → Prop} {d : DefRec} {K : Params → PySem.W.Frag} {x : Str} (names : List Str)
    (hn : l.most = some n) (hn2 : n ≤ sizeLine) (hdf : d.params.defaults = []) (hr : Room k callerA) (hrec : ∀ y ∈ names, ((recsOf q).find? fun e => e.name == y).isSome = true) (hY : ∀ (w : World) (h : Heap), YP w h → (K w.params).In h)
    (F : ∀ (w : World) (mg : Str → Option Value) (fa : Addr) (h : Heap), (K w.params).In h → h.Ns mainGlobals mg → mg d.name = some (.ref fa) →
      ∃ (fd : FuncData) (cs : List (Str × Addr × Addr)) (sp : Sp), (∀ p ∈ cs, p.1 ∈ names ∧ PySem.W.tabIn (K w.params) p.1 = some p.2 ∧ (K w.params).lookup p.2.2 = none) ∧ (∀ (s : Shared) (u : Value), BindsTo s fd ⟨[u], []⟩ [(x, u)]) ∧
        (∀ (H : Hp) (a : Addr) (ns : List Int), ns.length ≤ n → (∀ p ∈ cs, Tab H p.2.2) → SqL (K w.params) H a (ns.map V.int) → ∀ Q : VK, (∀ H', Ex H H' → Q (.bl true) H') → sp [.ref a] H Q fun _ _ _ => False) ∧
        ∀ base : Heap, (K w.params).In base → base.Ns mainGlobals mg → (∀ p ∈ cs, LamX.TabB base mg p.2.1 p.2.2) → FnOk l.prog w (K w.params) mg base CX0 k fa fd [x] sp) :
    PySem.W.WalkO q loose XP YP l.row.toRowW d [] (fun f vs => PySem.call f vs) := by
  refine Att.attach_callB hn hdf fun w s₀ s₁ mg mb fa o pm cd doc a vs ns G Y ho hd hcd hmg hobj hints hlen hbits hg => ?_
  have KX := hY w _ Y
  obtain ⟨fd, cs, sp, hcs, hb, hsp, hF⟩ := F w mg fa _ KX G.T.g hmg
  have two : ∀ p ∈ cs, PySem.W.CodeHd s₁.heap p.2.1 p.2.2 ∧ s₁.heap.get? p.2.2 = some { cls := .none, data := .fields #[] } := fun p hp => by
    obtain ⟨h1, h2, _⟩ := hcs p hp
    obtain ⟨e, he⟩ := Option.isSome_iff_exists.mp (hrec _ h1)
    exact PySem.W.tab_of G.T KX he h2
  have mem : ∀ y ∈ cs.map (fun p => (p.2.1, p.2.2)), ∃ p ∈ cs, p.2 = y := fun y hy => by
    obtain ⟨p, hp, e⟩ := List.mem_map.mp hy
    exact ⟨p, hp, by rw [← e]⟩
  have lim : ∀ b ∈ cs.map (fun p => p.2.2), ∃ p ∈ cs, p.2.2 = b := fun b hb => by
    obtain ⟨p, hp, e⟩ := List.mem_map.mp hb
    exact ⟨p, hp, e⟩
  refine LamX.law_callTs (cs := cs.map fun p => (p.2.1, p.2.2)) (CX := CX0) (sp := spExt (cs.map fun p => p.2.2) sp) KX G.T.g G.T.b G.T.builtins G.T.nolimit hg (fun y hy => ?_) (fun y hy => ?_) (fun y hy => ?_) G.T.bmain hobj hints (Nat.le_trans hlen hn2) hr
    (fun base h1 h2 h3 => ok_ext (hF base h1 h2 fun p hp => h3 (p.2.1, p.2.2) (List.mem_map.mpr ⟨p, hp, rfl⟩))) hb (fun H hH hS => ?_) fun H e s' z => z
  · obtain ⟨p, hp, rfl⟩ := mem y hy
    exact (two p hp).2
  · obtain ⟨p, hp, rfl⟩ := mem y hy
    exact (hcs p hp).2.2
  · obtain ⟨p, hp, rfl⟩ := mem y hy
    exact (two p hp).1
  · refine ⟨fun b hb => ?_, ?_⟩
    · obtain ⟨p, hp, rfl⟩ := lim b hb
      exact hH (p.2.1, p.2.2) (List.mem_map.mpr ⟨p, hp, rfl⟩)
    · have hnt : ∀ p ∈ cs, extH (cs.map fun p => p.2.2) H p.2.2 = some (.ext (TabPhi p.2.2)) := fun p hp => extH_in (List.mem_map.mpr ⟨p, hp, rfl⟩)
      refine hsp _ a ns hlen hnt ?_ _ fun H' e => ⟨fun b hb => ?_, fun _ => rfl⟩
      · rcases hS with (h | ⟨o, h⟩) | h
        · refine .inl (.inl ?_)
          rw [extH_out fun hb => ?_]
          · exact h
          · obtain ⟨p, hp, rfl⟩ := lim a hb
            rw [hH (p.2.1, p.2.2) (List.mem_map.mpr ⟨p, hp, rfl⟩)] at h
            cases h
        · refine .inl (.inr ⟨o, ?_⟩)
          rw [extH_out fun hb => ?_]
          · exact h
          · obtain ⟨p, hp, rfl⟩ := lim a hb
            rw [hH (p.2.1, p.2.2) (List.mem_map.mpr ⟨p, hp, rfl⟩)] at h
            cases h
        · exact .inr h
      · obtain ⟨p, hp, rfl⟩ := lim b hb
        exact e _ _ (hnt p hp)
end LT

set_option Elab.async false
set_option linter.all false
set_option maxRecDepth 100000
set_option maxHeartbeats 4000000
namespace LG
open PySem PySem.Spec PyProof.Rows L2 Evl LT
/-! ### generator expressions whose elements leave everything as it stands -/
theorem kp_tok (s : Shared) (k : Nat) : Keeps s { s with toks := k } := ⟨s.heap, k, rfl, fun _ _ e => e⟩
theorem kp_refl (s : Shared) : Keeps s s := kp_tok s s.toks
theorem kp_trans {s s1 s2 : Shared} (a : Keeps s s1) (b : Keeps s1 s2) : Keeps s s2 := by
  obtain ⟨h1, t1, rfl, k1⟩ := a
  obtain ⟨h2, t2, rfl, k2⟩ := b
  exact ⟨h2, t2, rfl, fun c o e => k2 c o (k1 c o e)⟩
theorem kp_at {s s1 : Shared} (a : Keeps s s1) : ∀ b o, s.heap.get? b = some o → s1.heap.get? b = some o := by
  obtain ⟨h1, t1, rfl, k1⟩ := a
  exact k1
def but (P : Addr) (H : Hp) : Hp := fun b => if b = P then none else H b
theorem but_ne {P b : Addr} {H : Hp} (h : b ≠ P) : but P H b = H b := if_neg h
/-- in the frame of a generator expression, at one turn: its name x holds u -/
structure Fc (X : Cx) (σ : L2.St) (H : Hp) (P : Addr) (scope : Scope) (x : Str) (u : Value) (cenv : Env) (A' : Around) (s₂ : Shared) (m₂ : Str → Option Value) : Prop where
  hd : A'.handled = none
  dp : A'.depth ≤ X.A.depth + 1
  un : A'.units ≤ X.A.units + 8
  sc : cenv.scope = scope
  gl : cenv.globals = mainGlobals
  bi : cenv.builtins = builtinsNs
  ns : s₂.heap.Ns cenv.locals m₂
  mx : m₂ x = some u
  base : ∀ b o, X.base.get? b = some o → s₂.heap.get? b = some o
  md : L2.Mod X.K X.mg X.base
  hok : HOk X.prog X.w (but P H) s₂.heap
  cap : ∀ (i : Nat) (y : Str) (v : V), X.N[i]? = some y → σ[i]? = some (some v) → (X.env.kindOf y = some .cell ∨ X.env.kindOf y = some .free) → scope.names.lookup y = some .free → ∃ r c, RelV v r ∧ cenv.cells.lookup y = some c ∧ s₂.heap.IsCell c (some r)
section
variable {X : Cx} {σ : L2.St} {H : Hp} {P : Addr} {scope : Scope} {x : Str} {u : Value} {cenv : Env} {A' : Around} {s₂ s₃ : Shared} {m₂ : Str → Option Value}
theorem Fc.keeps (F : Fc X σ H P scope x u cenv A' s₂ m₂) (k : Keeps s₂ s₃) : Fc X σ H P scope x u cenv A' s₃ m₂ :=
  have k' := kp_at k
  ⟨F.hd, F.dp, F.un, F.sc, F.gl, F.bi, (let ⟨o, es, ep, e, r⟩ := F.ns; ⟨o, es, ep, k' _ _ e, r⟩), F.mx, fun b o e => k' b o (F.base b o e), F.md, F.hok.kept k', fun i y v h1 h2 h3 h4 => by
    obtain ⟨r, c, a1, a2, o, a3, a4⟩ := F.cap i y v h1 h2 h3 h4
    exact ⟨r, c, a1, a2, o, k' _ _ a3, a4⟩⟩
theorem Fc.kin (F : Fc X σ H P scope x u cenv A' s₂ m₂) : X.K.In s₂.heap := F.md.kin.keeps F.base
theorem Fc.list (F : Fc X σ H P scope x u cenv A' s₂ m₂) (hT : Tab H P) {a : Addr} {xs : List V} (h : SqL X.K H a xs) : ∃ its : List Value, Vals xs its ∧ PlainL s₂.heap a its.toArray ∧ xs.length ≤ sizeLine := by
  have rd : ∀ {o : HO}, H a = some o → (∀ φ, o ≠ .ext φ) → but P H a = some o := fun {o} e n => by
    rw [but_ne fun z => by rw [z, hT] at e; exact n _ (Option.some.inj e).symm]
    exact e
  rcases h with (h | ⟨o, h⟩) | ⟨o, its, n, hk, hc, hd, hs, hz, r⟩
  · obtain ⟨z, its, n, r, e⟩ := F.hok a _ (rd h (fun φ z => by cases z))
    exact ⟨its, r, ⟨_, n, e, rfl, rfl, rfl⟩, z⟩
  · obtain ⟨_, z, its, n, r, e⟩ := F.hok a _ (rd h (fun φ z => by cases z))
    exact ⟨its, r, ⟨_, n, e, rfl, rfl, rfl⟩, z⟩
  · refine ⟨its.toList, r, ⟨o, n, F.kin a o hk, hc, hd, by simpa using hs⟩, ?_⟩
    have e := r.length
    simp only [Array.length_toList] at e
    omega
theorem Fc.tuple (F : Fc X σ H P scope x u cenv A' s₂ m₂) (hT : Tab H P) {a : Addr} {xs : List V} (h : SqT X.K H a xs) : ∃ its : List Value, Vals xs its ∧ IsTup s₂.heap a its.toArray ∧ xs.length ≤ sizeLine := by
  have rd : ∀ {o : HO}, H a = some o → (∀ φ, o ≠ .ext φ) → but P H a = some o := fun {o} e n => by
    rw [but_ne fun z => by rw [z, hT] at e; exact n _ (Option.some.inj e).symm]
    exact e
  rcases h with (h | ⟨o, h⟩) | ⟨o, its, n, hk, hc, hs, hz, r⟩
  · obtain ⟨z, its, r, p⟩ := F.hok a _ (rd h (fun φ z => by cases z))
    exact ⟨its, r, p, z⟩
  · obtain ⟨_, z, its, r, p⟩ := F.hok a _ (rd h (fun φ z => by cases z))
    exact ⟨its, r, p, z⟩
  · refine ⟨its.toList, r, ⟨o, F.kin a o hk, hc, n, by simpa using hs⟩, ?_⟩
    have e := r.length
    simp only [Array.length_toList] at e
    omega
end
/-- the expression has the value z there -/
def QV (X : Cx) (σ : L2.St) (H : Hp) (P : Addr) (scope : Scope) (x : Str) (u : Value) (e : Expr) (z : V) : Prop :=
  ∀ (cenv : Env) (A' : Around) (E' : Value → Shared → Prop) (s₂ : Shared) (m₂ : Str → Option Value), Fc X σ H P scope x u cenv A' s₂ m₂ → wpAny (model X.prog X.w) A' (eval e cenv) (fun y s₃ => RelV z y ∧ Keeps s₂ s₃) E' s₂
section
variable {X : Cx} {σ : L2.St} {H : Hp} {P : Addr} {scope : Scope} {x : Str} {u : Value} {a b : Expr} {za zb z : V} {pos : Pos}
theorem qv_x (hk : scope.kind = .function) (hl : scope.names.lookup x = some .local) (r : RelV z u) (hd : (x == ("__debug__" : Str)) = false := by decide) : QV X σ H P scope x u (.Name x pos) z := fun cenv A' E' s m F =>
  wpAny_Name (wpAny_loadName_local (by rw [F.sc]; exact hk) (show cenv.scope.names.lookup x = some .local by rw [F.sc]; exact hl) F.ns F.mx ⟨r, kp_refl _⟩) hd
theorem qv_cap {i : Nat} {y : Str} (hk : scope.kind = .function) (hl : scope.names.lookup y = some .free) (hN : X.N[i]? = some y) (hs : σ[i]? = some (some z)) (hv : X.env.kindOf y = some .cell ∨ X.env.kindOf y = some .free := by first | exact Or.inl rfl | exact Or.inr rfl) (hd : (y == ("__debug__" : Str)) = false := by decide) (hcd : (y == ("__classdict__" : Str)) = false := by decide) :
    QV X σ H P scope x u (.Name y pos) z := fun cenv A' E' s m F => by
  obtain ⟨r, c, h1, h2, h3⟩ := F.cap i y z hN hs hv hl
  exact wpAny_Name (wpAny_loadName_free (by rw [F.sc]; exact hk) (show cenv.scope.names.lookup y = some .free by rw [F.sc]; exact hl) h2 h3 ⟨h1, kp_refl _⟩ hcd) hd
theorem qv_glob {y : Str} {r : Value} (hk : scope.kind = .function) (hl : scope.names.lookup y = some .globalImplicit) (hm : X.mg y = some r) (h : RelV z r) (hd : (y == ("__debug__" : Str)) = false := by decide) :
    QV X σ H P scope x u (.Name y pos) z := fun cenv A' E' s m F =>
  Calls.Name_function_global (by rw [F.sc]; exact hk) (show cenv.scope.names.lookup y = some .globalImplicit by rw [F.sc]; exact hl) (Calls.loadGlobal_global (by rw [F.gl]; exact F.md.glob.keeps F.base) hm ⟨h, kp_refl _⟩) hd
theorem qv_int {i : Int} {j : Nat} : QV X σ H P scope x u (.Constant (.int i) j pos) (.int i) := fun cenv A' E' s m F => wpAny_Constant_int ⟨⟨_, rfl⟩, kp_tok _ _⟩
theorem qv_str {i : Str} {j : Nat} : QV X σ H P scope x u (.Constant (.str i) j pos) (.str i) := fun cenv A' E' s m F => Calls.Constant_str ⟨⟨_, rfl⟩, kp_tok _ _⟩
/-- an operation on two values -/
def QR (X : Cx) (σ : L2.St) (H : Hp) (P : Addr) (scope : Scope) (x : Str) (u : Value) (f : Value → Value → Sem Value) (za zb z : V) : Prop :=
  ∀ (cenv : Env) (A' : Around) (E' : Value → Shared → Prop) (s₂ : Shared) (m₂ : Str → Option Value) (v w : Value), Fc X σ H P scope x u cenv A' s₂ m₂ → RelV za v → RelV zb w → wpAny (model X.prog X.w) A' (f v w) (fun y s₃ => RelV z y ∧ Keeps s₂ s₃) E' s₂
theorem qv_two {f : Value → Value → Sem Value} (ha : QV X σ H P scope x u a za) (hb : QV X σ H P scope x u b zb) (hr : QR X σ H P scope x u f za zb z) (cenv : Env) (A' : Around) (E' : Value → Shared → Prop) (s : Shared) (m : Str → Option Value) (F : Fc X σ H P scope x u cenv A' s m) :
    wpAny (model X.prog X.w) A' (eval a cenv) (fun v s₁ => wpAny (model X.prog X.w) A' (eval b cenv) (fun w s₂ => wpAny (model X.prog X.w) A' (f v w) (fun y s₃ => RelV z y ∧ Keeps s s₃) E' s₂) E' s₁) E' s :=
  wpAny_mono (ha cenv A' E' s m F) (fun v s1 r1 => wpAny_mono (hb cenv A' E' s1 m (F.keeps r1.2)) (fun w s2 r2 => wpAny_mono (hr cenv A' E' s2 m v w ((F.keeps r1.2).keeps r2.2) r1.1 r2.1)
    (fun y s3 r3 => ⟨r3.1, kp_trans (kp_trans r1.2 r2.2) r3.2⟩) fun _ _ e => e) fun _ _ e => e) fun _ _ e => e
theorem qv_cmp {op : CmpOp} (hr : QR X σ H P scope x u (compareOp op) za zb z) (ha : QV X σ H P scope x u a za) (hb : QV X σ H P scope x u b zb) (hm : behindInMarks op b = false) : QV X σ H P scope x u (.Compare a [op] [b] pos) z := fun cenv A' E' s m F =>
  wpAny_Compare1 (qv_two ha hb hr cenv A' E' s m F) hm
theorem qv_op {op : Operator} (hr : QR X σ H P scope x u (binaryOp op) za zb z) (ha : QV X σ H P scope x u a za) (hb : QV X σ H P scope x u b zb) : QV X σ H P scope x u (.BinOp a op b pos) z := fun cenv A' E' s m F =>
  wpAny_BinOp (qv_two ha hb hr cenv A' E' s m F)
theorem qv_ix (hr : ∀ value slice, subscripted slice false = subscripted slice false → QR X σ H P scope x u (fun v w => subscriptTail value slice v w) za zb z) (ha : QV X σ H P scope x u a za) (hb : QV X σ H P scope x u b zb) : QV X σ H P scope x u (.Subscript a b pos) z := fun cenv A' E' s m F =>
  Subscript_ (qv_two ha hb (hr a b rfl) cenv A' E' s m F)
theorem qr_add {i j : Int} : QR X σ H P scope x u (binaryOp .Add) (.int i) (.int j) (.int (i + j)) := fun cenv A' E' s m v w F r1 r2 => by
  obtain ⟨t, rfl⟩ := r1
  obtain ⟨t', rfl⟩ := r2
  exact add_int ⟨⟨_, rfl⟩, kp_tok _ _⟩
theorem qr_ne_int {i j : Int} : QR X σ H P scope x u (compareOp .NotEq) (.int i) (.int j) (.bl (i != j)) := fun cenv A' E' s m v w F r1 r2 => by
  obtain ⟨t, rfl⟩ := r1
  obtain ⟨t', rfl⟩ := r2
  exact ne_int ⟨rfl, kp_refl _⟩
theorem qr_le_int {i j : Int} : QR X σ H P scope x u (compareOp .LtE) (.int i) (.int j) (.bl (decide (i ≤ j))) := fun cenv A' E' s m v w F r1 r2 => by
  obtain ⟨t, rfl⟩ := r1
  obtain ⟨t', rfl⟩ := r2
  exact le_int ⟨rfl, kp_refl _⟩
theorem qr_ne_str {i j : Str} : QR X σ H P scope x u (compareOp .NotEq) (.str i) (.str j) (.bl (i.cps.toList != j.cps.toList)) := fun cenv A' E' s m v w F r1 r2 => by
  obtain ⟨t, rfl⟩ := r1
  obtain ⟨t', rfl⟩ := r2
  exact PySem.P.ne_str ⟨rfl, kp_refl _⟩
theorem qr_in_sign {c : Nat} {j : Str} : QR X σ H P scope x u (compareOp .In) (.str ⟨#[c]⟩) (.str j) (.bl (decide (c ∈ j.cps.toList))) := fun cenv A' E' s m v w F r1 r2 => by
  obtain ⟨t, rfl⟩ := r1
  obtain ⟨t', rfl⟩ := r2
  exact PyProof.Rows.in_str ⟨(PySem.StrLaws.found_one j c).symm ▸ rfl, kp_refl _⟩
end

/-! ### what is walked -/
def SrcV (K : PySem.W.Frag) (H : Hp) (v : V) (n : Nat) (xs : Nat → V) : Prop :=
  (∃ (a : Addr) (l : List V), v = .ref a ∧ SqL K H a l ∧ n = l.length ∧ ∀ i, xs i = l.getD i .non) ∨
  (∃ z : Str, v = .str z ∧ n = z.cps.size ∧ ∀ i c, z.cps[i]? = some c → xs i = .str ⟨#[c]⟩) ∨
  (∃ (a : Addr) (lo hi : Int), v = .ref a ∧ H a = some (.rng lo hi) ∧ n = (hi - lo).toNat ∧ -(2 ^ 62) ≤ lo ∧ lo < 2 ^ 62 ∧ -(2 ^ 62) ≤ hi ∧ hi < 2 ^ 62 ∧ ∀ i : Nat, xs i = .int (lo + i))
section
variable {X : Cx} {pins : List (Addr × Obj)} {σ : L2.St} {H : Hp} {s : Shared}
theorem src_iter {v : V} {xv : Value} {n : Nat} {xs : Nat → V} {P : Addr} {Q : Value → Shared → Prop} {E : Value → Shared → Prop} (S : SrcV X.K H v n xs) (I : Inv X pins σ H s) (r : RelV v xv) (hT : Tab H P)
    (h : ∀ (o : Obj) (fp : List Addr) (Pf : Nat → Value → Prop) (St : Nat → Heap → Prop), (∀ i u, Pf i u → i < n → RelV (xs i) u) → (∀ A' : Around, A'.handled = none → Walks X.prog X.w A' s.heap.objs.size fp [s.heap.objs.size] n Pf St) →
      St 0 (s.heap.push o) → (∀ b ∈ fp, b ≤ s.heap.objs.size ∧ b ≠ P) → Q (.ref s.heap.objs.size) { s with heap := s.heap.push o }) : wpAny (model X.prog X.w) X.A (pyIter xv) Q E s := by
  have Plt : P < s.heap.objs.size := Heap.lt_size (hT.of_ok I.hok).choose_spec.1
  have szP : s.heap.objs.size ≠ P := fun z => Nat.lt_irrefl _ (z ▸ Plt : s.heap.objs.size < s.heap.objs.size)
  rcases S with ⟨a, l, rfl, hl, rfl, hx⟩ | ⟨z, rfl, rfl, hx⟩ | ⟨a, lo, hi, rfl, ha, rfl, b1, b2, b3, b4, hx⟩
  · cases r
    obtain ⟨its, rv, pl, _⟩ := I.list hl
    have hal : a < s.heap.objs.size := let ⟨_, e, _⟩ := pl.isList; Heap.lt_size e
    have naP : a ≠ P := fun e => by
      obtain ⟨ps, e1, _⟩ := hT.of_ok I.hok
      obtain ⟨o, n, e2, e3, _, e4⟩ := pl
      rw [e, e1] at e2
      cases e2
      cases e3
    refine wpAny_pyIter_list pl.isList ?_
    have hne : a ≠ s.heap.objs.size := Nat.ne_of_lt hal
    have en : its.toArray.size = l.length := by rw [List.size_toArray]; exact rv.length.symm
    refine h _ [s.heap.objs.size, a] (fun i v => its.toArray[i]? = some v) (fun i h => h.IsListIter s.heap.objs.size a i ∧ h.IsList a its.toArray) (fun i u hu hi => ?_) (fun A' hA => by rw [← en]; exact Walks.list hA _ a hne its.toArray) ⟨⟨_, Heap.get?_push_size _ rfl, rfl, rfl⟩, pl.isList.at fun o e => Heap.get?_push_of_some _ e⟩ fun b hb => ?_
    · obtain ⟨w, ew, rw'⟩ := rv.get (List.getElem?_eq_getElem hi)
      have e2 : its.toArray[i]? = some w := by simpa using ew
      rw [e2] at hu
      cases hu
      rw [hx, List.getD_eq_getElem?_getD, List.getElem?_eq_getElem hi]
      exact rw'
    · rcases List.mem_cons.mp hb with e | hb
      · rw [e]
        exact ⟨Nat.le_refl _, szP⟩
      · rw [List.mem_singleton.mp hb]
        exact ⟨Nat.le_of_lt hal, naP⟩
  · obtain ⟨t, rfl⟩ := r
    refine wpAny_pyIter_str fun o St W hst => ?_
    refine h o [s.heap.objs.size] (SignAt z) St (fun i u hu hi => ?_) W hst fun b hb => ?_
    · obtain ⟨c, t', hc, rfl⟩ := hu
      rw [hx i c hc]
      exact ⟨_, rfl⟩
    · rw [List.mem_singleton.mp hb]
      exact ⟨Nat.le_refl _, szP⟩
  · cases r
    obtain ⟨t, t1, t2, e⟩ := I.hok a _ ha
    refine wpAny_pyIter_range (a := lo) (b := hi) (c := 1) e (small_one b1 b2 b3 b4) ?_
    have en : ((Builtin.Range.rangeSize lo hi 1 : Int)) = (((hi - lo).toNat : Nat) : Int) := by
      unfold Builtin.Range.rangeSize
      simp
      omega
    refine h _ [s.heap.objs.size] (fun i v => ∃ t, v = .int (lo + i * 1) t) _ (fun i u hu hi => ?_) (fun A' hA => Walks.range hA _ lo 1 _) ?_ fun b hb => ?_
    · obtain ⟨t, rfl⟩ := hu
      rw [hx]
      exact ⟨t, by rw [Int.mul_one]⟩
    · rw [en]
      show IsRangeIter _ _ (lo + ((0 : Nat) : Int) * 1) ((((hi - lo).toNat : Nat) : Int) - ((0 : Nat) : Int)) 1
      rw [show lo + ((0 : Nat) : Int) * 1 = lo by simp, show (((hi - lo).toNat : Nat) : Int) - ((0 : Nat) : Int) = (((hi - lo).toNat : Nat) : Int) by simp]
      exact Heap.get?_push_size _ rfl
    · rw [List.mem_singleton.mp hb]
      exact ⟨Nat.le_refl _, szP⟩
end
theorem lookup_mem' {α : Type} : ∀ {l : List (Str × α)} {n : Str} {c : α}, l.lookup n = some c → (n, c) ∈ l
  | [], _, _, h => by cases h
  | (k, v) :: r, n, c, h => by
    rw [List.lookup_cons] at h
    cases hb : n == k with
    | true =>
      rw [hb] at h
      cases h
      rw [beq_iff_eq.mp hb]
      exact List.mem_cons_self
    | false =>
      rw [hb] at h
      exact List.mem_cons_of_mem _ (lookup_mem' h)
theorem walks_lt {prog : Program} {w : World} {A : Around} {I : Addr} {fp wr : List Addr} {n : Nat} {Pf : Nat → Value → Prop} {St : Nat → Heap → Prop} (W : Walks prog w A I fp wr n Pf St) : Walks prog w A I fp wr n (fun i u => i < n ∧ Pf i u) St where
  sub := W.sub
  frame := W.frame
  item := fun i s Q E hi st hQ => W.item i s Q E hi st fun v h' tk hp => hQ v h' tk ⟨hi, hp⟩
  done := W.done
  self := W.self
theorem clo_lookup {cells : List (Str × Addr)} {names : List (Str × NameKind)} {y : Str} {c : Addr} (hy : (y, NameKind.free) ∈ names) (hc : cells.lookup y = some c) : (cloFrom cells names []).lookup y = some c := by
  obtain ⟨c', h⟩ := mem_lookup (cloFrom_has (cells := cells) (acc := []) hy)
  rcases cloFrom_mem (lookup_mem' h) with z | ⟨_, z⟩
  · cases z
  · rw [h, z, hc]
    rfl
section
variable {X : Cx} {pins : List (Addr × Obj)} {σ : L2.St} {H : Hp} {s : Shared}
/-- the table has grown: nothing that is tracked changes -/
theorem inv_grown {P : Addr} {s' : Shared} (I : Inv X pins σ H s) (hT : Tab H P) (k : ∀ b o, b ≠ P → s.heap.get? b = some o → s'.heap.get? b = some o) (hP : TabPhi P s'.heap) (ho : s'.os = s.os) (hg : AllBare s'.gens) : Inv X pins σ H s' := by
  have nN : ∀ b, H b = none → b ≠ P := fun b e z => by
    rw [z, hT] at e
    cases e
  have J := I.step (h' := s'.heap) (H' := H) (g' := s'.gens) (t' := s'.toks) (d' := s'.drawn) (ch := []) (fun b hb => absurd hb (by simp)) (fun b o _ _ _ e n => k b o (nN b n) e) (fun b o _ _ _ e n => ⟨o.slots, k b o (nN b n) e⟩) (fun b o _ _ n => n)
    (fun b o _ e => by
      by_cases hb : b = P
      · rw [hb]
        exact ⟨_, hP.choose_spec.1⟩
      · exact ⟨o, k b o hb e⟩)
    (fun b xs e => e) (fun b o u e => e) (fun b ps e => ⟨#[], by rw [e]; simp⟩) (fun m ⟨ob, es, ep, e, r⟩ => ⟨ob, es, ep, k _ ob (nN _ I.free) e, r⟩)
    (fun b u e => by
      by_cases hb : b = P
      · subst hb
        rw [hT] at e
        cases e
        exact tab_ok hP
      · refine (I.hok b u e).stay (fun d v hd q => k d v ?_ q) (fun d q => q) fun d xs q => q
        rcases hd with z | z
        · rw [z]
          exact hb
        · intro e2
          rw [e2, hT] at z
          cases z) hg
  have e : ({ s with heap := s'.heap, gens := s'.gens, drawn := s'.drawn, toks := s'.toks } : Shared) = s' := by
    cases s'
    cases ho
    rfl
  rw [e] at J
  exact J
/-- the generator g, ready to be walked -/
def RdyG (X : Cx) (pins : List (Addr × Obj)) (σ : L2.St) (H : Hp) (n : Nat) (f : Nat → Bool) (g : Addr) (s5 : Shared) : Prop :=
  ∃ (fp wr : List Addr) (G : Array GenState → Array GenState → Prop) (F : Nat → Value → Prop) (St : Nat → Shared → Prop), WalksS X.prog X.w X.A.in1 g fp wr G n F St ∧ St 0 s5 ∧ TruthOf X.prog X.w X.A.in1 F f ∧ ∀ s', Moved wr G s5 s' → Inv X pins σ H s'
theorem gen_make {c P : Addr} {elt iter : Expr} {x : Str} {px gpos : Pos} {scope : Scope} {te : TE} {k : Nat} {Q' : Value → Shared → Prop} {R : Nat → (Nat → Bool) → Hp → Prop}
    (hr : Room k X.A) (TB : LamX.TabB X.base X.mg c P) (hcode : X.env.code = .ref c) (S : GxR.GenS X.env scope x) (hi : PE X iter te) (hs : ∀ v, genFold iter X.env v = pure v) (I : Inv X pins σ H s)
    (h : te σ H fun v H1 => Tab H1 P ∧ ∃ (n : Nat) (xs : Nat → V) (f : Nat → Bool), SrcV X.K H1 v n xs ∧ (∀ i u, i < n → RelV (xs i) u → QV X σ H1 P scope x u elt (.bl (f i))) ∧ R n f H1)
    (hQ : ∀ n f H1 g s5, R n f H1 → RdyG X pins σ H1 n f g s5 → Q' (.ref g) s5) :
    wpAny (model X.prog X.w) X.A (eval (.GeneratorExp elt [⟨.Name x px, iter, [], 0⟩] scope gpos) X.env) Q' X.xe s := by
  refine wpAny_GeneratorExp_walksQD hr.hd S.co (closure_ok S.free) S.cell S.dot S.loc S.kind hr.depth ?_ hs
  refine thn (hi.run pins s σ H _ I h) fun xv s1 ⟨v, H1, I1, r1, hT, n, xs, f, hsrc, hel, hR⟩ => ?_
  refine src_iter hsrc I1 r1 hT fun o fp Pf St hPf hW hst hfp => ?_
  obtain ⟨ps, hPs, ht⟩ := hT.of_ok I1.hok
  have hPlt : P < s1.heap.objs.size := Heap.lt_size hPs
  have hP2 : (s1.heap.push o).get? P = some { cls := .none, data := .fields ps } := Heap.get?_push_of_some _ hPs
  have cd : PySem.W.CodeHd (s1.heap.push o) c P := TB.code.keeps fun b u e => Heap.get?_push_of_some _ (I1.bk b u e)
  have lim2 : (s1.heap.push o).NoLimit := I1.nolimit.push o
  have hcP : cStatics ≠ P := fun e => by
    obtain ⟨_, ⟨o', es, ep, ho, hd, _⟩, _⟩ := I1.nolimit
    rw [e, hPs] at ho
    cases ho
    cases hd
  have hcl : cStatics < s1.heap.objs.size := let ⟨_, hns, _⟩ := I1.nolimit; hns.lt
  have sz2 : (s1.heap.push o).objs.size = s1.heap.objs.size + 1 := Heap.size_push ..
  have nTb : ∀ b, H1 b = none → b ≠ P := fun b e z => by
    rw [z, hT] at e
    cases e
  -- what is left once the code object is known
  have go : ∀ (code : Value) (h3 : Heap) (tk : Nat) (ps' : Array Value), Heap.ExtBut P (s1.heap.push o) h3 → (s1.heap.push o).objs.size ≤ h3.objs.size → h3.get? P = some { cls := .none, data := .fields ps' } → TriplesOk ps'.toList →
      wpAny (model X.prog X.w) X.A (builtinsFor X.env.globals X.env.builtins) (fun bi s₄ => ∃ I fp wr n₀ Pg St₀ pz F, Value.ref s1.heap.objs.size = .ref I ∧ (∀ A' : Around, A'.handled = none → Walks X.prog X.w A' I fp wr n₀ Pg St₀) ∧ St₀ 0 s₄.heap ∧ (∀ b ∈ fp, b < s₄.heap.objs.size) ∧ s₄.heap.NoLimit ∧ cStatics ∉ wr ∧
          (∀ href : Heap, (∀ b o, s₄.heap.get? b = some o → href.get? b = some o) → QuietGenD X.prog X.w (genEnv scope (cloFrom X.env.cells scope.names []) s₄.heap.objs.size code bi X.env) x [] elt (List.range s₄.heap.objs.size) wr Pg pz F href (X.A.depth + 1) (X.A.units + 8)) ∧
          (∀ a h₅ tk gs, gs.bare = true → s₄.heap.objs.size < a → h₅.objs.size = a + 1 → (∀ b o, s₄.heap.get? b = some o → h₅.get? b = some o) →
            WalksS X.prog X.w X.A.in4 a (a :: s₄.heap.objs.size :: List.range s₄.heap.objs.size) (s₄.heap.objs.size :: wr) (GenOnlyQ s₄.gens.size) (passing pz n₀ 0).length (fun j y => ∃ i, (passing pz n₀ 0)[j]? = some i ∧ F i y) (GenAt X.prog X.w X.A.in4 a s₄.gens.size s₄.heap.objs.size (List.range s₄.heap.objs.size) wr pz n₀ F) →
            GenAt X.prog X.w X.A.in4 a s₄.gens.size s₄.heap.objs.size (List.range s₄.heap.objs.size) wr pz n₀ F 0 { s₄ with gens := s₄.gens.push gs, toks := tk, heap := h₅ } →
            Q' (.ref a) { s₄ with gens := s₄.gens.push gs, toks := tk, heap := h₅ })) X.xe { s1 with heap := h3, toks := tk } := by
    intro code h3 tk ps' hx hsz hP3 ht3
    obtain ⟨bm, ob, e1, e2, e3, e4, e5, e6, e7, e8⟩ := TB.bm
    have keep3 : ∀ b u, b ≠ P → s1.heap.get? b = some u → h3.get? b = some u := fun b u hb e => hx b u hb (Heap.get?_push_of_some _ e)
    refine wpAny_builtinsFor (m := X.mg) (by rw [I1.ok.glob]; exact ((I1.mod.glob.keeps I1.bk).push o).extBut hx TB.gP) e1 e2 (keep3 _ _ e4 (I1.bk _ _ e5)) e6 e7 e8 ?_
    have hsz3 : s1.heap.objs.size < h3.objs.size := by omega
    refine ⟨s1.heap.objs.size, fp, [s1.heap.objs.size], n, fun i u => i < n ∧ Pf i u, St, fun _ => true, fun i y => y = .bool (f i), rfl, fun A' hA => walks_lt (hW A' hA), ?_, fun b hb => Nat.lt_of_le_of_lt (hfp b hb).1 hsz3, lim2.extBut hx hcP, ?_, ?_, ?_⟩
    · exact (hW X.A hr.hd).frame _ _ _ hst fun b hb u e => hx b u (hfp b hb).2 e
    · intro z
      rw [List.mem_singleton.mp z] at hcl
      exact Nat.lt_irrefl _ hcl
    · intro href hhref
      refine ⟨fun A' E' i v s₂ m₂ hA hD hU hPv hn hm hk => ?_, fun A' E' i v s₂ m₂ hA hD hU hPv hp hn hm hk => ?_⟩
      · simp only [List.forIn_nil]
        exact wpAny_pure ⟨rfl, kp_refl _⟩
      · have kept : ∀ b u, b ≠ P → s1.heap.get? b = some u → s₂.heap.get? b = some u := fun b u hb e => by
          have hlt := Heap.lt_size e
          refine hk b (List.mem_range.mpr ?_) (fun z => ?_) u (hhref b u (keep3 b u hb e))
          · show b < h3.objs.size
            exact Nat.lt_trans hlt hsz3
          · rw [List.mem_singleton.mp z] at hlt
            exact Nat.lt_irrefl _ hlt
        refine wpAny_mono (hel i v hPv.1 (hPf i v hPv.2 hPv.1) _ A' E' s₂ m₂ ⟨hA, hD, hU, rfl, I1.ok.glob, rfl, hn, hm, fun b u e => kept b u (nTb b (I1.bs b u e).2) (I1.bk b u e), I1.mod, fun b u e => ?_, fun j y w hN hσ hv hfr => ?_⟩) (fun y s3 r => ⟨r.1, r.2⟩) fun _ _ e => e
        · have hb : b ≠ P := fun z => by
            rw [z] at e
            unfold but at e
            rw [if_pos rfl] at e
            cases e
          rw [but_ne hb] at e
          refine (I1.hok b u e).stay (fun d w hd q => kept d w ?_ q) (fun d q => ?_) fun d ys q => ?_
          · rcases hd with z | z
            · rw [z]
              exact hb
            · intro e2
              rw [e2, hT] at z
              cases z
          · rw [but_ne fun e2 => by rw [e2, hT] at q; cases q]
            exact q
          · rw [but_ne fun e2 => by rw [e2, hT] at q; cases q]
            exact q
        · obtain ⟨m, hn1, hl⟩ := I1.loc
          obtain ⟨r, rv, l⟩ := hl j y w hN hσ (hv.elim (fun z => Or.inr (Or.inl z)) (fun z => Or.inr (Or.inr z)))
          rcases l with ⟨z, _⟩ | ⟨_, cc, hc, oc, he, hd⟩
          · rcases hv with z2 | z2
            · rw [z] at z2; cases z2
            · rw [z] at z2; cases z2
          · exact ⟨r, cc, rv, clo_lookup (lookup_mem' hfr) hc, oc, kept cc oc (nTb cc (I1.freeC y cc hc)) he, hd⟩
    · intro g h5 tk5 gs hgb hag hsz5 hk5 W5 hat
      simp only [GxR.passing_true, List.length_range] at W5
      refine hQ n f H1 g _ hR ⟨_, _, _, _, _, W5.in4_1, hat, fun j y sj Qj Ej hy hQj => ?_, fun s' hm => ?_⟩
      · obtain ⟨i, hij, rfl⟩ := hy
        obtain ⟨hj, ej⟩ := List.getElem?_eq_some_iff.mp hij
        rw [List.getElem_range] at ej
        subst ej
        exact wpAny_truthy_bool hQj
      · have nwr : ∀ b u, s1.heap.get? b = some u → b ∉ h3.objs.size :: [s1.heap.objs.size] := fun b u e hb => by
          have hl := Heap.lt_size e
          rcases List.mem_cons.mp hb with z | z
          · rw [z] at hl
            exact Nat.lt_irrefl _ (Nat.lt_trans hl hsz3)
          · rw [List.mem_singleton.mp z] at hl
            exact Nat.lt_irrefl _ hl
        exact inv_grown I1 hT (fun b u hb e => hm.heap b u (nwr b u e) (hk5 b u (keep3 b u hb e))) ⟨ps', hm.heap P _ (nwr P _ hPs) (hk5 P _ hP3), ht3⟩ hm.os (AllBare.movedS (I1.bare.push hgb) hm)
  refine ⟨lim2, ?_⟩
  cases hf : codeAmong gpos ps.toList with
  | some cv => exact wpAny_genexprCode_hit hcode (cd.code hP2 ht) hf (go cv (s1.heap.push o) s1.toks ps (Heap.ExtBut.refl _ _) (Nat.le_refl _) hP2 ht)
  | none =>
    refine wpAny_genexprCodeX hcode (cd.code hP2 ht) (cd.tab hP2) hf fun c' h' tk hx hge hlt hco' _ htab' _ => ?_
    obtain ⟨_, _, _, _, _, _, _, _, _, _, _, _, _, _, _, _, _, _, _, htr, _⟩ := hco'
    exact go _ h' tk _ hx (Nat.le_trans hge (Nat.le_of_lt hlt)) htab'.2 htr
/-- all(.. for x in e), any(.. for x in e) -/
def tGen (X : Cx) (P : Addr) (scope : Scope) (x : Str) (elt : Expr) (fin : Nat → (Nat → Bool) → Bool) (te : TE) : TE := fun σ H Q => te σ H fun v H1 => Tab H1 P ∧ ∃ (n : Nat) (xs : Nat → V) (f : Nat → Bool), SrcV X.K H1 v n xs ∧ (∀ i u, i < n → RelV (xs i) u → QV X σ H1 P scope x u elt (.bl (f i))) ∧ Q (.bl (fin n f)) H1
def allF (n : Nat) (f : Nat → Bool) : Bool := (List.range n).all f
def anyF (n : Nat) (f : Nat → Bool) : Bool := (List.range n).any f
theorem pe_all {c P : Addr} {elt iter : Expr} {x : Str} {px p pos gpos : Pos} {scope : Scope} {te : TE} {k : Nat} (hr : Room k X.A) (hg : Gl X "all") (hm : X.mg "all" = none) (hb : bootBuiltins "all" = some (.builtin "all")) (TB : LamX.TabB X.base X.mg c P) (hcode : X.env.code = .ref c) (S : GxR.GenS X.env scope x)
    (hi : PE X iter te) (hs : ∀ v, genFold iter X.env v = pure v)
    (he : starEach [.GeneratorExp elt [⟨.Name x px, iter, [], 0⟩] scope gpos] X.env = (false, eval (.GeneratorExp elt [⟨.Name x px, iter, [], 0⟩] scope gpos) X.env) :: starEach [] X.env := by rfl) :
    PE X (.Call (.Name "all" p) [.GeneratorExp elt [⟨.Name x px, iter, [], 0⟩] scope gpos] [] pos) (tGen X P scope x elt allF te) := by
  refine ⟨fun pins s σ H Q I h => wpAny_Call_Name_kw (ld_blt I hg hm hb (PyProof.Rows.callWith_builtin1 ?_ he (by rfl)))⟩
  rw [he]
  show wpAny _ _ (spliced ((false, eval (.GeneratorExp elt [⟨.Name x px, iter, [], 0⟩] scope gpos) X.env) :: backTo pos (starEach [] X.env))) _ _ s
  refine Calls.spliced_cons (gen_make (R := fun n f H1 => Q (.bl (allF n f)) H1) hr TB hcode S hi hs I h fun n f H1 g s5 hR ⟨fp, wr, G, F, St₁, W, hst, htr, hI⟩ => Calls.spliced_nil ?_)
  exact call_all_walkS (W.self 0 _ _ _ hst ⟨g, fp, wr, G, _, F, St₁, _, rfl, W, hst, htr, fun s' hmv => ⟨.bl _, H1, hI s' hmv, rfl, hR⟩⟩)
theorem pe_any {c P : Addr} {elt iter : Expr} {x : Str} {px p pos gpos : Pos} {scope : Scope} {te : TE} {k : Nat} (hr : Room k X.A) (hg : Gl X "any") (hm : X.mg "any" = none) (TB : LamX.TabB X.base X.mg c P) (hcode : X.env.code = .ref c) (S : GxR.GenS X.env scope x)
    (hi : PE X iter te) (hs : ∀ v, genFold iter X.env v = pure v)
    (he : starEach [.GeneratorExp elt [⟨.Name x px, iter, [], 0⟩] scope gpos] X.env = (false, eval (.GeneratorExp elt [⟨.Name x px, iter, [], 0⟩] scope gpos) X.env) :: starEach [] X.env := by rfl) :
    PE X (.Call (.Name "any" p) [.GeneratorExp elt [⟨.Name x px, iter, [], 0⟩] scope gpos] [] pos) (tGen X P scope x elt anyF te) := by
  refine ⟨fun pins s σ H Q I h => wpAny_Call_Name_kw (ld_blt I hg hm boot_any (PyProof.Rows.callWith_builtin1 ?_ he (by rfl)))⟩
  rw [he]
  show wpAny _ _ (spliced ((false, eval (.GeneratorExp elt [⟨.Name x px, iter, [], 0⟩] scope gpos) X.env) :: backTo pos (starEach [] X.env))) _ _ s
  refine Calls.spliced_cons (gen_make (R := fun n f H1 => Q (.bl (anyF n f)) H1) hr TB hcode S hi hs I h fun n f H1 g s5 hR ⟨fp, wr, G, F, St₁, W, hst, htr, hI⟩ => Calls.spliced_nil ?_)
  exact call_any_walkS (W.self 0 _ _ _ hst ⟨g, fp, wr, G, _, F, St₁, _, rfl, W, hst, htr, fun s' hmv => ⟨.bl _, H1, hI s' hmv, rfl, hR⟩⟩)
end
end LG

set_option Elab.async false
set_option linter.all false
set_option maxRecDepth 100000
set_option maxHeartbeats 4000000
namespace LS
open PySem PySem.Spec PyProof.Rows L2 Evl LT LG
/-! ### texts -/
section
variable {K : PySem.W.Frag} {σ : L2.St} {H : Hp} {ta tb tc te to : TE} {x y z v : V} {D : Ends} {tu tz : TS}
theorem rv_addS {i j : Str} (h : i.length + j.length ≤ sizeLine) : RV (fun x y H Q => ∃ i j, x = .str i ∧ y = .str j ∧ i.length + j.length ≤ sizeLine ∧ Q (.str (i ++ j)) H) (.str i) (.str j) H (.str (i ++ j)) := rv_val fun _ _ Q q => ⟨i, j, rfl, rfl, h, q⟩
theorem ev_lenS {z : Str} {ta : TE} (h : Ev ta σ H (.str z)) (hz : z.length ≤ sizeLine) : Ev (tCB (fun xs H Q => ∃ x, xs = [.str x] ∧ x.length ≤ sizeLine ∧ Q (.int x.length) H) (tCons ta tNil)) σ H (.int (z.length : Int)) := ev_cb (ea_cons h ea_nil) fun H1 _ Q q => ⟨z, rfl, hz, q H1 (Ex.refl H1)⟩
theorem ev_isi {x : V} {n : String} {t : Value} {b : Bool} (h : Ev ta σ H x) (hn : Ev tb σ H (.ty n)) (ht : ∀ H1, Ex H H1 → TyX K H1 x t) (hk : PySem.W.kitOne K t (.type n) = some b) : Ev (tCB (rIsi K) (tCons ta (tCons tb tNil))) σ H (.bl b) :=
  ev_cb (ea_cons h (ea_cons hn ea_nil)) fun H1 e Q q => ⟨x, .ty n, t, .type n, b, rfl, .ty n, ht H1 e, hk, q H1 (Ex.refl H1)⟩
/-- a < b < c over ints -/
theorem et_chain {f g : Int → Int → Bool} {i j k : Int} (ha : Ev ta σ H (.int i)) (hb : Ev tb σ H (.int j)) (hc : Ev tc σ H (.int k)) : EvT (tTest (tChain (rI0 fun i j => .bl (f i j)) (rI0 fun i j => .bl (g i j)) ta tb tc)) σ H (f i j && g j k) := fun H1 e Q q =>
  ha H1 e _ fun H2 e2 => hb H2 (e.trans e2) _ fun H3 e3 => ⟨i, j, rfl, rfl, f i j, rfl, by
    cases hf : f i j with
    | true =>
      rw [if_pos rfl]
      refine hc H3 ((e.trans e2).trans e3) _ fun H4 e4 => ⟨j, k, rfl, rfl, g j k, rfl, ?_⟩
      have := q H4 ((e2.trans e3).trans e4)
      rw [hf] at this
      exact this
    | false =>
      rw [if_neg Bool.false_ne_true]
      have := q H3 (e2.trans e3)
      rw [hf] at this
      exact ⟨false, rfl, this⟩⟩
theorem s_forS {zs : Str} {j : Nat} (h : Ev te σ H (.str zs)) (Pv : Nat → L2.St → Hp → Prop) (h0 : ∀ H1, Ex H H1 → Pv 0 σ H1)
    (hs : ∀ i c σ' H', zs.cps.toList[i]? = some c → Pv i σ' H' → tu { D with nx := Pv (i + 1), ct := Pv (i + 1), bk := D.nx } (σ'.set j (some (.str ⟨#[c]⟩))) H') (hd : ∀ σ' H', Pv zs.cps.toList.length σ' H' → D.nx σ' H') : tFor (iStr te) (gName j) tu D σ H :=
  h H (Ex.refl H) _ fun H1 e => ⟨zs, rfl, fun i m σ' H' => m + i = zs.cps.size ∧ Pv i σ' H', ⟨zs.cps.size, by omega, h0 H1 e⟩, fun i m σ' H' ⟨hm, p⟩ => by
    by_cases hi : i < zs.cps.size
    · refine .inr ⟨hi, Pv (i + 1), fun σ2 H2 p2 => ⟨m - 1, by omega, by omega, p2⟩, fun v H2 hy => ?_⟩
      obtain ⟨rfl, c, hc, rfl⟩ := hy
      exact hs i c σ' H2 (by rw [Array.getElem?_toList]; exact hc) p
    · have ei : i = zs.cps.toList.length := by
        rw [Array.length_toList]
        omega
      rw [ei] at p
      exact .inl ⟨Nat.le_of_not_lt hi, hd σ' H' p⟩⟩
theorem q_forS {zs : Str} {j : Nat} (h : Ev te σ H (.str zs)) (Pv : Nat → L2.St → Hp → Prop) (h0 : ∀ H1, Ex H H1 → Pv 0 σ H1)
    (hs : ∀ i c σ' H', zs.cps.toList[i]? = some c → Pv i σ' H' → tu { D with nx := Pv (i + 1), ct := Pv (i + 1), bk := tz D } (σ'.set j (some (.str ⟨#[c]⟩))) H') (hd : ∀ σ' H', Pv zs.cps.toList.length σ' H' → tz D σ' H') : tSeq (tFor (iStr te) (gName j) tu) tz D σ H :=
  s_forS (D := { D with nx := tz D }) h Pv h0 hs hd
theorem q_call {i : Nat} {sp : Sp} {dvs vs : List V} {E : XK} {tr : TA} (h : EvA tr σ H vs) (k : ∀ H1, Ex H H1 → sp (vs ++ dvs) H1 (fun v H2 => tz D (σ.set i (some v)) H2) E) : tSeq (tAsg (tCall sp dvs E tr) (gName i)) tz D σ H := h H (Ex.refl H) _ fun H1 e => k H1 e
/-- a call whose first argument is a new tuple -/
theorem ev_callU1 {sp : Sp} {dvs vs xs : List V} {E : XK} {tr : TA} (h : EvU ta σ H xs) (hr : EvA tr σ H vs) (hs : ∀ p H1, H1 p = some (.tup xs) → Ex H H1 → SpV sp ((.ref p :: vs) ++ dvs) H1 z) : Ev (tCall sp dvs E (tCons ta tr)) σ H z := fun H1 e Q q =>
  h H1 e _ fun p H2 hp e2 h2 => hr H2 (e.trans e2) _ fun H3 e3 => hs p H3 (e3 _ _ h2) ((e.trans e2).trans e3) H3 (Ex.refl _) Q (fun H4 e4 => q H4 ((e2.trans e3).trans e4)) E
theorem ev_index {W : WX} {a b : Str} {k : Nat} {tr : TA} (h : Ev to σ H (.str a)) (hb : EvA tr σ H [.str b]) (hk : Txt.index0 a b = some k) : Ev (tBMS K "str" (rIndexX W) to tr) σ H (.int (k : Int)) := fun H1 e Q q =>
  h H1 e _ fun H2 e2 => ⟨rfl, hb H2 (e.trans e2) _ fun H3 e3 => ⟨a, b, rfl, rfl, fun k' hk' => by
    rw [hk] at hk'
    cases hk'
    exact q H3 (e2.trans e3), fun hn => by
    rw [hk] at hn
    cases hn⟩⟩
theorem ev_find {a b : Str} (h : Ev to σ H (.str a)) (hb : Ev te σ H (.str b)) : Ev (tM1 (fun x xs H Q => ∃ a b, x = .str a ∧ xs = [.str b] ∧ Q (.int (Txt.find a b)) H) to te) σ H (.int (Txt.find a b)) := fun H1 e Q q =>
  h H1 e _ fun H2 e2 => ⟨⟨a, rfl⟩, hb H2 (e.trans e2) _ fun H3 e3 => ⟨a, b, rfl, rfl, q H3 (e2.trans e3)⟩⟩
theorem ev_slS {tl th : TO} {z : Str} {lo hi : Option Int} (h : Ev te σ H (.str z)) (h1 : EvO tl σ H lo) (h2 : EvO th σ H hi) (hz : z.length ≤ sizeLine) : Ev (tSl rSlS te tl th) σ H (.str (cutS z lo hi)) := fun H1 e Q q =>
  h H1 e _ fun H2 e2 => h1 H2 (e.trans e2) _ fun H3 e3 => h2 H3 ((e.trans e2).trans e3) _ fun H4 e4 => ⟨z, rfl, hz, q H4 ((e2.trans e3).trans e4)⟩
/-- text * int -/
def rMulS : R2 := fun x y H Q => ∃ a n, x = .str a ∧ y = .int n ∧ a.length ≤ 1000 ∧ 0 ≤ n ∧ n ≤ 1000 ∧ Q (.str (Txt.mul a n)) H
theorem rv_mulS {a : Str} {n : Int} (h1 : a.length ≤ 1000) (h2 : 0 ≤ n) (h3 : n ≤ 1000) : RV rMulS (.str a) (.int n) H (.str (Txt.mul a n)) := rv_val fun _ _ Q q => ⟨a, n, rfl, rfl, h1, h2, h3, q⟩
end
theorem mulOk {a : Str} {n : Int} (h1 : a.length ≤ 1000) (h2 : 0 ≤ n) (h3 : n ≤ 1000) : MulOk a n := by
  refine ⟨by simp; omega, fun h h' hh => ?_, fun h h' => ?_⟩
  · have p : (0 : Int) < n := by omega
    have m : (a.length : Int) * n ≤ 1000 * 1000 := Int.mul_le_mul (by omega) h3 h2 (by decide)
    have := (Int.le_ediv_iff_mul_le p).mpr (show (a.length : Int) * n ≤ 2 ^ 63 - 1 by omega)
    omega
  · have m : a.length * n.toNat ≤ 1000 * 1000 := Nat.mul_le_mul h1 (by omega)
    have z : sizeLine = 16777216 := rfl
    show decide (a.length * n.toNat > sizeLine) = false
    exact decide_eq_false (by omega)
theorem op_mul_str {X : Cx} : OpR X (binaryOp .Mult) rMulS := by
  intro pins s σ H x y v u Q I rx ry h
  obtain ⟨a, n, rfl, rfl, h1, h2, h3, q⟩ := h
  obtain ⟨t, rfl⟩ := rx
  obtain ⟨t', rfl⟩ := ry
  exact SB.mul (mulOk h1 h2 h3) fun t'' k => ⟨.str (Txt.mul a n), H, I.tok _, ⟨_, rfl⟩, q⟩
section
variable {X : Cx} {σ : L2.St} {H : Hp} {P : Addr} {scope : Scope} {x : Str} {elt : Expr} {te : TE} {fin : Nat → (Nat → Bool) → Bool}
theorem ev_gen {v : V} {n : Nat} {xs : Nat → V} {f : Nat → Bool} (h : Ev te σ H v) (hT : Tab H P) (hs : ∀ H1, Ex H H1 → SrcV X.K H1 v n xs) (he : ∀ H1, Ex H H1 → ∀ i u, i < n → RelV (xs i) u → QV X σ H1 P scope x u elt (.bl (f i))) :
    Ev (tGen X P scope x elt fin te) σ H (.bl (fin n f)) := fun H1 e Q q => h H1 e _ fun H2 e2 => ⟨hT.mono (e.trans e2), n, xs, f, hs H2 (e.trans e2), he H2 (e.trans e2), q H2 e2⟩
end
theorem allF_list {α : Type} (l : List α) (d : α) (p : α → Bool) : allF l.length (fun i => p (l.getD i d)) = l.all p := by
  unfold allF
  rw [Bool.eq_iff_iff, List.all_eq_true, List.all_eq_true]
  constructor
  · intro h y hy
    obtain ⟨i, hi, rfl⟩ := List.getElem_of_mem hy
    have q := h i (List.mem_range.mpr hi)
    rw [List.getD_eq_getElem?_getD, List.getElem?_eq_getElem hi] at q
    exact q
  · intro h i hi
    have hi' := List.mem_range.mp hi
    rw [List.getD_eq_getElem?_getD, List.getElem?_eq_getElem hi']
    exact h _ (List.getElem_mem hi')
theorem anyF_list {α : Type} (l : List α) (d : α) (p : α → Bool) : anyF l.length (fun i => p (l.getD i d)) = l.any p := by
  unfold anyF
  rw [Bool.eq_iff_iff, List.any_eq_true, List.any_eq_true]
  constructor
  · rintro ⟨i, hi, h⟩
    have hi' := List.mem_range.mp hi
    rw [List.getD_eq_getElem?_getD, List.getElem?_eq_getElem hi'] at h
    exact ⟨_, List.getElem_mem hi', h⟩
  · rintro ⟨y, hy, h⟩
    obtain ⟨i, hi, rfl⟩ := List.getElem_of_mem hy
    refine ⟨i, List.mem_range.mpr hi, ?_⟩
    rw [List.getD_eq_getElem?_getD, List.getElem?_eq_getElem hi]
    exact h
theorem src_str {K : PySem.W.Frag} {H : Hp} (z : Str) : SrcV K H (.str z) z.cps.toList.length (fun i => .str ⟨#[z.cps.toList.getD i 0]⟩) := .inr (.inl ⟨z, rfl, Array.length_toList, fun i c hc => by
  have e : z.cps.toList[i]? = some c := by rw [Array.getElem?_toList]; exact hc
  show V.str ⟨#[z.cps.toList.getD i 0]⟩ = V.str ⟨#[c]⟩
  rw [List.getD_eq_getElem?_getD, e]
  rfl⟩)
/-! ### a def whose code object is known -/
structure FunC (K : PySem.W.Frag) (x qual : Str) (st : Stmt) (f : Addr) (fd : FuncData) (c : Addr) : Prop where
  ex : ∃ (oc : Value) (od : Option Addr) (kV doc pm : Value) (an : Option Addr) (ct : Value) (osl : Array (Option Value)), fd = PySem.W.fnOf x qual (defArgs st) (defBody st) (defScope st) .none kV doc pm an (.ref c) ct ∧ K.lookup f = some ⟨oc, od, .func fd, osl⟩ ∧ PySem.W.codeIn K (.ref c) qual = true
  kp : PySem.W.keepIn K (.ref f) = true
section
variable {P : Program} {w : World} {K : PySem.W.Frag} {mg : Str → Option Value} {base : Heap}
theorem FunC.ok {x qual : Str} {st : Stmt} {f c : Addr} {fd : FuncData} {N ps : List Str} {k : Nat} {sp : Sp} (F : FunC K x qual st f fd c) (S : FnScope N ps (defScope st)) (len : ∀ vs H Q E, sp vs H Q E → vs.length = ps.length)
    (hbody : ∀ (A : Around) (outer : List Env) (s : Shared) (H : Hp) (vs : List V) (Q : VK) (E : XK), Room k (A.deeper (envOfC qual (defScope st) s.heap.objs.size f (.ref c))) → sp vs H Q E →
      ∃ t, PSs (cxOf CX0 P w K mg base N qual (defScope st) f (.ref c) A outer s H E).nox (defBody st) t ∧ t { nx := fun _ H' => Q .non H', rt := Q } (start N vs) H) : FnOk P w K mg base CX0 (k + 1) f fd ps sp := by
  obtain ⟨oc, od, kV, doc, pm, an, ct, osl, rfl, lk, hcd⟩ := F.ex
  exact fn_of lk hcd S len fun A outer s H vs Q E hr hsp => let ⟨t, h, q⟩ := hbody A outer s H vs Q E hr hsp; ⟨t, h.nox, q⟩
theorem FunC.fun {x qual : Str} {st : Stmt} {f c : Addr} {fd : FuncData} (F : FunC K x qual st f fd c) : Fun K x qual st f fd := let ⟨oc, od, kV, doc, pm, an, ct, osl, e, lk, hcd⟩ := F.ex; ⟨⟨oc, od, kV, doc, pm, an, .ref c, ct, osl, e, lk, hcd⟩, F.kp⟩
theorem tab_mk {x : Str} {f c T : Addr} {oc e : Value} {od dd : Option Addr} {osl sl : Array (Option Value)} {fd : FuncData} {vs : Array Value} (a : PySem.W.nsIn K mainGlobals x = some (some (.ref f))) (l : K.lookup f = some ⟨oc, od, .func fd, osl⟩)
    (h : K.lookup c = some ⟨e, dd, .fields vs, sl⟩) (hv : vs[11]? = some (.ref T)) (hc : fd.code = .ref c := by rfl) : PySem.W.tabIn K x = some (c, T) := by
  unfold PySem.W.tabIn
  rw [a]
  dsimp only
  rw [l]
  dsimp only
  rw [hc]
  dsimp only
  rw [h]
  dsimp only
  rw [hv]
theorem funC_mk {x qual : Str} {st : Stmt} {f c T : Addr} {oc : Value} {od an : Option Addr} {osl : Array (Option Value)} {kV doc pm cdv ct : Value} (a : PySem.W.nsIn K mainGlobals x = some (some (.ref f))) (l : K.lookup f = some ⟨oc, od, .func (PySem.W.fnOf x qual (defArgs st) (defBody st) (defScope st) .none kV doc pm an cdv ct), osl⟩)
    (cd : PySem.W.codeIn K cdv qual = true) (k : PySem.W.keepIn K (.ref f) = true) (ht : PySem.W.tabIn K x = some (c, T)) : FunC K x qual st f (PySem.W.fnOf x qual (defArgs st) (defBody st) (defScope st) .none kV doc pm an cdv ct) c := by
  have e : cdv = .ref c := by
    unfold PySem.W.tabIn at ht
    rw [a] at ht
    dsimp only at ht
    rw [l] at ht
    dsimp only [PySem.W.fnOf] at ht
    cases cdv with
    | ref c' =>
      dsimp only at ht
      split at ht
      · split at ht
        · cases ht
          rfl
        · cases ht
      · cases ht
    | _ => cases ht
  subst e
  exact ⟨⟨oc, od, kV, doc, pm, an, ct, osl, rfl, l, cd⟩, k⟩
end
end LS

set_option Elab.async false
set_option linter.all false
set_option maxRecDepth 100000
set_option maxHeartbeats 4000000
namespace LQ
open PySem PySem.Spec PyProof.Rows L2 Evl LT LG LS
/-! ### calls within the elements of a generator expression -/
section
variable {X : Cx} {σ : L2.St} {H : Hp} {P : Addr} {scope : Scope} {x : Str} {u : Value} {a b : Expr} {za zb z : V} {pos p : Pos}
theorem fc_blt {y : Str} {r : Value} {cenv : Env} {A' : Around} {E' : Value → Shared → Prop} {s : Shared} {m : Str → Option Value} {Q : Value → Shared → Prop} (F : Fc X σ H P scope x u cenv A' s m) (hk : scope.kind = .function) (hl : scope.names.lookup y = some .globalImplicit) (hm : X.mg y = none) (hv : bootBuiltins y = some r) (h : Q r s)
    (hn : y ≠ "__name__" := by decide) (hd : (y == ("__debug__" : Str)) = false := by decide) : wpAny (model X.prog X.w) A' (eval (.Name y p) cenv) Q E' s := by
  obtain ⟨mb, h1, h2⟩ := F.md.blt
  exact Calls.Name_function_global (by rw [F.sc]; exact hk) (show cenv.scope.names.lookup y = some .globalImplicit by rw [F.sc]; exact hl) (Calls.loadGlobal_builtin (by rw [F.gl]; exact F.md.glob.keeps F.base) hm (by rw [F.bi]; exact h1.keeps F.base) ((h2 y hn).trans hv) h) hd
theorem qv_blt {y : Str} {r : Value} (hk : scope.kind = .function) (hl : scope.names.lookup y = some .globalImplicit) (hm : X.mg y = none) (hv : bootBuiltins y = some r) (hz : RelV z r) (hn : y ≠ "__name__" := by decide) (hd : (y == ("__debug__" : Str)) = false := by decide) :
    QV X σ H P scope x u (.Name y p) z := fun cenv A' E' s m F => fc_blt F hk hl hm hv ⟨hz, kp_refl _⟩ hn hd
/-- a built-in function of two arguments -/
theorem qv_blt2 {y : Str} {id : String} (hk : scope.kind = .function) (hl : scope.names.lookup y = some .globalImplicit) (hm : X.mg y = none) (hv : bootBuiltins y = some (.builtin id)) (ha : QV X σ H P scope x u a za) (hb : QV X σ H P scope x u b zb) (hr : QR X σ H P scope x u (fun v w => call (.builtin id) [v, w]) za zb z)
    (he : ∀ env, starEach [a, b] env = (false, eval a env) :: starEach [b] env := by intro _; rfl) (h2 : ∀ env, starEach [b] env = [(false, eval b env)] := by intro _; rfl) (hn : y ≠ "__name__" := by decide) (hd : (y == ("__debug__" : Str)) = false := by decide) :
    QV X σ H P scope x u (.Call (.Name y p) [a, b] [] pos) z := fun cenv A' E' s m F => by
  refine wpAny_Call_Name_kw (fc_blt F hk hl hm hv ?_ hn hd)
  refine PyProof.Rows.callWith_builtin1 ?_ (he cenv) (by rw [h2 cenv]; rfl)
  rw [he cenv, h2 cenv]
  show wpAny _ _ (spliced [(false, eval a cenv), (false, eval b cenv)]) _ _ s
  refine Calls.spliced_cons (wpAny_mono (ha cenv A' E' s m F) (fun v s1 r1 => ?_) fun _ _ e => e)
  refine Calls.spliced_cons (wpAny_mono (hb cenv A' E' s1 m (F.keeps r1.2)) (fun w s2 r2 => ?_) fun _ _ e => e)
  exact Calls.spliced_nil (wpAny_mono (hr cenv A' E' s2 m v w ((F.keeps r1.2).keeps r2.2) r1.1 r2.1) (fun y s3 r3 => ⟨r3.1, kp_trans (kp_trans r1.2 r2.2) r3.2⟩) fun _ _ e => e)
/-- what isinstance asks of a value -/
theorem kit_fc {cenv : Env} {A' : Around} {s : Shared} {m : Str → Option Value} {v : Value} {t : Value} (F : Fc X σ H P scope x u cenv A' s m) (hT : Tab H P) (r : RelV z v) (ty : TyOf X.K H z t) (no : ∀ a C dx fs, H a = some (.ins C dx fs) → z ≠ .ref a) :
    ∃ Pz : Heap → Prop, PySem.W.KitX X.K v t Pz ∧ Pz s.heap ∧ v ≠ .builtin "__main__.__loader__#opaque" := by
  have rd : ∀ {a : Addr} {o : HO}, H a = some o → (∀ φ, o ≠ .ext φ) → but P H a = some o := fun {a o} e n => by
    rw [but_ne fun z => by rw [z, hT] at e; exact n _ (Option.some.inj e).symm]
    exact e
  cases ty with
  | non => cases (show v = Value.none from r); exact ⟨_, PySem.W.kitx_none, True.intro, fun z => nomatch z⟩
  | bl y => cases (show v = Value.bool y from r); exact ⟨_, PySem.W.kitx_bool, True.intro, fun z => nomatch z⟩
  | int i => obtain ⟨t, q⟩ := (show ∃ t, v = Value.int i t from r); cases q; exact ⟨_, PySem.W.kitx_int, True.intro, fun z => nomatch z⟩
  | str y => obtain ⟨t, q⟩ := (show ∃ t, v = Value.str y t from r); cases q; exact ⟨_, PySem.W.kitx_str, True.intro, fun z => nomatch z⟩
  | flt y => obtain ⟨t, q⟩ := (show ∃ t, v = Value.float y t from r); cases q; exact ⟨_, PySem.W.kitx_float, True.intro, fun z => nomatch z⟩
  | @lst a xs ea =>
    cases (show v = Value.ref a from r)
    obtain ⟨_, _, n, _, h1⟩ := (show ObjOk X.prog X.w (but P H) s.heap a (.lst xs) from F.hok a _ (rd ea (fun φ z => by cases z)))
    exact ⟨_, PySem.W.kitx_list, ⟨_, h1, rfl⟩, fun z => nomatch z⟩
  | @frz a ob xs ea =>
    cases (show v = Value.ref a from r)
    obtain ⟨_, _, _, n, _, h1⟩ := (show ObjOk X.prog X.w (but P H) s.heap a (.frz ob (.lst xs)) from F.hok a _ (rd ea (fun φ z => by cases z)))
    exact ⟨_, PySem.W.kitx_list, ⟨_, h1, rfl⟩, fun z => nomatch z⟩
  | @tup a xs ea =>
    cases (show v = Value.ref a from r)
    obtain ⟨_, _, _, o, h1, h2, _⟩ := (show ObjOk X.prog X.w (but P H) s.heap a (.tup xs) from F.hok a _ (rd ea (fun φ z => by cases z)))
    exact ⟨_, PySem.W.kitx_tuple, ⟨o, h1, h2⟩, fun z => nomatch z⟩
  | @dK a kvs ea =>
    cases (show v = Value.ref a from r)
    obtain ⟨_, _, vs, _, o, es, ep, h1, h2, _⟩ := F.hok a _ (rd ea (fun φ z => by cases z))
    exact ⟨_, PySem.W.kitx_dict, ⟨o, h1, h2.1⟩, fun z => nomatch z⟩
  | @dT a kvs ea =>
    cases (show v = Value.ref a from r)
    obtain ⟨_, _, xs, _, o, es, ep, h1, h2, _⟩ := F.hok a _ (rd ea (fun φ z => by cases z))
    exact ⟨_, PySem.W.kitx_dict, ⟨o, h1, h2.1⟩, fun z => nomatch z⟩
  | @ins a C dx fs ea cl ha hn htk hm => exact absurd rfl (no a C dx fs ea)
theorem qr_isi {T : String} {t : Value} {b : Bool} (hT : Tab H P) (ty : TyOf X.K H z t) (no : ∀ a C dx fs, H a = some (.ins C dx fs) → z ≠ .ref a) (hk : PySem.W.kitOne X.K t (.type T) = some b) : QR X σ H P scope x u (fun v w => call (.builtin "isinstance") [v, w]) z (.ty T) (.bl b) := fun cenv A' E' s m v w F r1 r2 => by
  cases (show w = Value.type T from r2)
  obtain ⟨Pz, Z, p, hx⟩ := kit_fc F hT r1 ty no
  exact PySem.W.kia_one Z F.kin p hk hx fun tk => ⟨rfl, kp_tok _ _⟩
theorem qv_is {z' : V} (h : QV X σ H P scope x u a z) (e : z = z') : QV X σ H P scope x u a z' := e ▸ h
theorem qv_not {c : Bool} (ha : QV X σ H P scope x u a (.bl c)) : QV X σ H P scope x u (.UnaryOp .Not a pos) (.bl (!c)) := fun cenv A' E' s m F => by
  refine UnaryOp_ (wpAny_mono (ha cenv A' E' s m F) (fun v s1 r1 => ?_) fun _ _ e => e)
  obtain ⟨rfl, k⟩ := r1
  exact not_of (wpAny_truthy_bool ⟨rfl, k⟩)
theorem qv_one {op : BoolOp} (ha : QV X σ H P scope x u a z) : QV X σ H P scope x u (.BoolOp op [a] pos) z := fun cenv A' E' s m F => BoolOp_one (ha cenv A' E' s m F)
theorem qv_and {rest : List Expr} {c d : Bool} (ha : QV X σ H P scope x u a (.bl c)) (hb : c = true → QV X σ H P scope x u (.BoolOp .And (b :: rest) pos) (.bl d)) : QV X σ H P scope x u (.BoolOp .And (a :: b :: rest) pos) (.bl (c && d)) := fun cenv A' E' s m F => by
  refine BoolOp_and (wpAny_mono (ha cenv A' E' s m F) (fun v s1 r1 => ?_) fun _ _ e => e)
  obtain ⟨rfl, k⟩ := r1
  refine wpAny_truthy_bool ?_
  cases c with
  | true => exact wpAny_mono (hb rfl cenv A' E' s1 m (F.keeps k)) (fun y s3 r3 => ⟨r3.1, kp_trans k r3.2⟩) fun _ _ e => e
  | false => exact ⟨rfl, k⟩
theorem qr_ge_int {i j : Int} : QR X σ H P scope x u (compareOp .GtE) (.int i) (.int j) (.bl (decide (j ≤ i))) := fun cenv A' E' s m v w F r1 r2 => by
  obtain ⟨t, rfl⟩ := r1
  obtain ⟨t', rfl⟩ := r2
  exact ge_int ⟨rfl, kp_refl _⟩
/-- an own def of one argument whose body is one return -/
theorem qv_call1 {nm pn qual : Str} {st : Stmt} {f : Addr} {fd : FuncData} {N : List Str} {e : Expr} {rp : Pos} {k : Nat} (hr : Room k X.A) (hk : scope.kind = .function) (hl : scope.names.lookup nm = some .globalImplicit) (hm : X.mg nm = some (.ref f)) (F : Fun X.K nm qual st f fd) (hbody : defBody st = [.Return (some e) rp]) (S : FnScope N [pn] (defScope st)) (hloc : (defScope st).names.lookup pn = some .local)
    (hb : Binds X.K fd [pn] []) (ha : QV X σ H P scope x u a za) (he : ∀ (A0 : Around) (v : Value), RelV za v → QV { X with A := A0 } σ H P (defScope st) pn v e z) (hs : ∀ env, starEach [a] env = (false, eval a env) :: starEach [] env := by intro _; rfl) (hd : (nm == ("__debug__" : Str)) = false := by decide) :
    QV X σ H P scope x u (.Call (.Name nm p) [a] [] pos) z := fun cenv A' E' s m Fc0 => by
  refine wpAny_Call_Name_kw (Calls.Name_function_global (by rw [Fc0.sc]; exact hk) (show cenv.scope.names.lookup nm = some .globalImplicit by rw [Fc0.sc]; exact hl) (Calls.loadGlobal_global (by rw [Fc0.gl]; exact Fc0.md.glob.keeps Fc0.base) hm ?_) hd)
  refine PySem.W.callWith_K (h₀ := X.base) Fc0.md.kin F.kp ?_ (hs cenv) (by rfl)
  rw [hs cenv]
  show wpAny _ _ (spliced ((false, eval a cenv) :: [])) _ _ s
  refine Calls.spliced_cons (wpAny_mono (ha cenv A' E' s m Fc0) (fun v s1 r1 => Calls.spliced_nil ?_) fun _ _ e => e)
  have F1 := Fc0.keeps r1.2
  refine ⟨F1.kin, ?_⟩
  obtain ⟨oc, od, kV, doc, pm, an, cdv, ct, osl, rfl, lk, hcd⟩ := F.ex
  refine wpAny_call (Att.call_fn (binds := [(pn, v)]) F1.kin (F1.md.nolimit.keeps F1.base) lk hcd (by have := hr.dp; have := Fc0.dp; omega) (hb s1 [v] F1.kin rfl) ?_ (fun s2 IC => ?_) S.co S.gen S.kind)
  · simp only [List.all_cons, List.all_nil, Bool.and_true, Bool.or_eq_true, beq_iff_eq]
    exact .inl hloc
  · obtain ⟨h2, tk2, rfl⟩ := IC.toInCall.same
    have kk : ∀ b o, s1.heap.get? b = some o → h2.get? b = some o := IC.toInCall.keep
    rw [hbody]
    have Fn : Fc { X with A := A' } σ H P (defScope st) pn v (envOfC qual (defScope st) s1.heap.objs.size f cdv) (A'.deeper (envOfC qual (defScope st) s1.heap.objs.size f cdv)) { s1 with heap := h2, toks := tk2 } _ :=
      ⟨Fc0.hd, Nat.le_refl _, by show A'.units + 3 ≤ A'.units + 8; omega, rfl, rfl, rfl, IC.toInCall.ns, by
        show bindL _ [(pn, v)] _ pn = some v
        unfold bindL
        have hkd : (envOfC qual (defScope st) s1.heap.objs.size f cdv).kindOf pn = some .local := hloc
        rw [hkd]
        simp [bindL], fun b o e => kk b o (F1.base b o e), F1.md, F1.hok.kept kk, fun i y w h1 h2 h3 h4 => absurd rfl (S.nofree (y, .free) (lookup_mem' h4))⟩
    refine wpAny_execs_cons (wpAny_Return_some (wpAny_mono (he A' v r1.1 _ _ _ _ _ Fn) (fun y s3 r3 => ⟨r3.1, kp_trans (kp_trans r1.2 ⟨h2, tk2, rfl, kk⟩) r3.2⟩) fun _ _ e => e))
end
end LQ

set_option Elab.async false
set_option linter.all false
set_option maxRecDepth 100000
set_option maxHeartbeats 4000000
namespace LX
open PySem PySem.Spec PyProof.Rows L2 Evl LT LG LS
/-! ### own exceptions without arguments -/
abbrev veTail : List Value := [.type "ValueError", .type "Exception", .type "BaseException", .type "object"]
/-- an exception class of the text: its name, what the written part says of it -/
structure Xc (K : PySem.W.Frag) (mg : Str → Option Value) (nm : Str) (C : Addr) : Prop where
  g : mg nm = some (.ref C)
  x : PySem.W.excIn K C veTail "ValueError.__new__" = true
  k : PySem.W.keepIn K (.ref C) = true
  b : PySem.W.subIn K (.ref C) (.type "BaseException") = some true
  t : PySem.W.typeIn K (.ref C) = some (.type "type")
  d : PySem.W.hasDictIn K C = true
section
variable {X : Cx} {C D : Addr} {nm : Str}
theorem pmk_own0 {p pos : Pos} (T : Xc X.K X.mg nm C) (hg : Gl X nm) (hdb : (nm == ("__debug__" : Str)) = false := by decide) : PMk X (.Call (.Name nm p) [] [] pos) (fun _ H Q => Q (.ref C) none H) := by
  intro pins s σ H Q I h
  refine wpAny_Call_Name_kw (ld_glob I hg T.g ?_ hdb)
  refine PySem.W.callWith_K0 I.kIn T.k ?_
  show wpAny _ _ (call (.ref C) []) _ _ _
  obtain ⟨_, _, _, _, _, _, _, _, _, _, _, _, _, _, _, _, _, hC, hN, hni, TT⟩ := exc_obj I.kIn T.x
  refine wpAny_call_exc_subT PySem.F.excBase_ValueError TT hC hN hni (fun h' e hm => ?_) (Nat.zero_le _)
  exact mk_of I hm (raises_own T.b T.t) h (I.hok.gone hm.new)
theorem ps_raise0 {W : WX} {p pos pos2 : Pos} (hc : X.calm = true) (T : Xc X.K X.mg nm C) (tk : Takes X W) (hg : Gl X nm) (hdb : (nm == ("__debug__" : Str)) = false := by decide) : PS X (.Raise (some (.Call (.Name nm p) [] [] pos)) none pos2) (fun _ σ H => W (.ref C) none σ H) := ps_raise hc tk (pmk_own0 T hg hdb)
/-- isinstance(e, c), e what the suite holds -/
def rIsX (K : PySem.W.Frag) (D a : Addr) (cls : Value) (d : Option Addr) : List V → Hp → VK → Prop := fun xs H Q => cls = .ref D ∧ d = none ∧ rIsE K D a xs H Q
theorem call_isX {a : Addr} {oe : Obj} {cls : Value} {d : Option Addr} {pn : List (Addr × Obj)} (C : ExcC X.K D) (hz : Zc cls d oe) (hf : ∃ vs, oe.data = .fields vs) : CallR (X.suite a ((a, oe) :: pn)) (.builtin "isinstance") (rIsX X.K D a cls d) := by
  intro pins s σ H xs us Q I r h
  obtain ⟨rfl, rfl, h⟩ := h
  exact call_isE C hz hf pins s σ H xs us Q I r h
end
section
variable {K : PySem.W.Frag} {mg : Str → Option Value} {C D : Addr} {nm : Str} {b : Bool}
theorem Xc.exm (T : Xc K mg nm C) {cls : Value} (h : PySem.W.subIn K cls (.ref C) = some b) : PySem.W.exmOne K cls (.ref C) = some b := PySem.W.exm_ref T.b T.d T.t h
theorem Xc.kit (T : Xc K mg nm C) {cls : Value} (h : PySem.W.subIn K cls (.ref C) = some b) (hn : cls = .ref C → b = true) : PySem.W.kitOne K cls (.ref C) = some b := by
  have e := T.exm h
  unfold PySem.W.exmOne at e
  rw [T.b] at e
  unfold PySem.W.kitOne
  by_cases q : cls = .ref C
  · rw [hn q, q]
    simp
  · rw [if_neg (by simpa using q)]
    simpa using e
end
/-- a try whose suite returns: what the body's calls that return do, what the suite does -/
theorem ev_isX {K : PySem.W.Frag} {D a C : Addr} {σ : L2.St} {H : Hp} {ta tb : TE} {b : Bool} (h : Ev ta σ H (.ref a)) (hn : Ev tb σ H (.ref C)) (hk : PySem.W.kitOne K (.ref D) (.ref C) = some b) : Ev (tCB (rIsX K D a (.ref D) none) (tCons ta (tCons tb tNil))) σ H (.bl b) :=
  ev_cb (ea_cons h (ea_cons hn ea_nil)) fun H1 e Q q => ⟨rfl, rfl, .ref C, .ref C, b, rfl, fun u hu => hu, hk, q H1 (Ex.refl H1)⟩
theorem pass_own {X : Cx} {E : XK} (tk : Takes X (fun cls d _ H => E cls d H)) : Passes (L2.CX X.prog X.w) X E := passes_call tk fun _ _ _ _ h => h
end LX

set_option Elab.async false
set_option linter.all false
set_option maxRecDepth 100000
set_option maxHeartbeats 4000000
namespace HE
open PySem PySem.Spec PyProof.Rows L2 Evl LT
/-! ### the head by facts: defs, their code objects, the walk's end -/
theorem fun_of {K : PySem.W.Frag} {x qual : Str} {st : Stmt} {f : Addr} {fd : FuncData} (F : FunD K x qual (defArgs st) (defBody st) (defScope st) [] [] f fd) : Fun K x qual st f fd := by
  obtain ⟨oc, od, dV, kV, doc, pm, an, cdv, ct, osl, rfl, lk, hcd, hd, _⟩ := F.ex
  have e : dV = .none := by
    rcases hd with ⟨_, h⟩ | ⟨h, _⟩
    · exact h
    · exact absurd rfl h
  subst e
  exact ⟨⟨oc, od, kV, doc, pm, an, cdv, ct, osl, rfl, lk, hcd⟩, F.kp⟩
theorem funC_of {K : PySem.W.Frag} {x qual : Str} {st : Stmt} {p : He.Defn} {fd : FuncData} (F : Fun K x qual st (He.fAd K p) fd) : LS.FunC K x qual st (He.fAd K p) fd (He.codeOf K p) := by
  obtain ⟨oc, od, kV, doc, pm, an, cdv, ct, osl, rfl, lk, hcd⟩ := F.ex
  obtain ⟨c, rfl⟩ := He.codeIn_ref hcd
  have e : He.codeOf K p = c := He.codeOf_eq lk rfl
  rw [e]
  exact ⟨⟨oc, od, kV, doc, pm, an, ct, osl, rfl, lk, hcd⟩, F.kp⟩
/-- what the Bool ex tells of the classes -/
def eqS (a b : Option (Option Value)) : Bool := decide (a = b)
theorem eqS_ok {a b : Option (Option Value)} (h : eqS a b = true) : a = b := of_decide_eq_true h
def dictC (K : PySem.W.Frag) (x : Str) : Bool := PySem.W.hasDictIn K (He.ga K x)
def subC (K : PySem.W.Frag) (x y : Str) (b : Bool) : Bool := decide (PySem.W.subIn K (.ref (He.ga K x)) (.ref (He.ga K y)) = some b)
theorem subC_ok {K : PySem.W.Frag} {x y : Str} {b : Bool} (h : subC K x y b = true) : PySem.W.subIn K (.ref (He.ga K x)) (.ref (He.ga K y)) = some b := of_decide_eq_true h
def excC (K : PySem.W.Frag) (x : Str) : Bool := eqS (PySem.W.findIn K (.ref (He.ga K x)) "__getattribute__") (some (some (.builtin "BaseException.__getattribute__"))) && (eqS (PySem.W.findIn K (.ref (He.ga K x)) "__getattr__") (some none) &&
  (decide (PySem.W.subIn K (.ref (He.ga K x)) (.type "BaseException") = some true) && (PySem.W.hasDictIn K (He.ga K x) && (eqS (PySem.W.findIn K (.ref (He.ga K x)) "__class__") (some (some (.builtin "object.__class__"))) &&
  (eqS (PySem.W.specialIn K (.builtin "object.__class__") "__get__") (some (some (.builtin "getset_descriptor.__get__"))) && (decide (PySem.W.takesIn K (.builtin "object.__class__") = some true) && decide (PySem.W.mroIn K (He.ga K x) (.type "object") = some true)))))))
theorem excC_ok {K : PySem.W.Frag} {x : Str} (h : excC K x = true) : ExcC K (He.ga K x) := by
  obtain ⟨h1, h⟩ := He.ba h
  obtain ⟨h2, h⟩ := He.ba h
  obtain ⟨h3, h⟩ := He.ba h
  obtain ⟨h4, h⟩ := He.ba h
  obtain ⟨h5, h⟩ := He.ba h
  obtain ⟨h6, h⟩ := He.ba h
  obtain ⟨h7, h8⟩ := He.ba h
  exact ⟨eqS_ok h1, eqS_ok h2, of_decide_eq_true h3, h4, eqS_ok h5, eqS_ok h6, of_decide_eq_true h7, of_decide_eq_true h8⟩
theorem xc_of {K : PySem.W.Frag} {h : Heap} {mg : Str → Option Value} {x : Str} (X : K.In h) (G : h.Ns mainGlobals mg) (g : (He.Fa.glo x).ok K = true) (c : (He.Fa.exc x).ok K = true) (d : dictC K x = true) : LX.Xc K mg x (He.ga K x) := by
  obtain ⟨h1, h2, h3, h4⟩ := He.exc_ok c
  exact ⟨He.glo_ok X G g, h1, h2, h3, h4, d⟩
theorem binds1 {K : PySem.W.Frag} {x qual y : Str} {st : Stmt} {f : Addr} {fd : FuncData} (F : Fun K x qual st f fd) (h : ∀ (kV doc pm : Value) (an : Option Addr) (cdv ct : Value) (u : Value), bindArgs (PySem.W.fnOf x qual (defArgs st) (defBody st) (defScope st) .none kV doc pm an cdv ct) ⟨[u], []⟩ = pure [(y, u)]) (s : Shared) (u : Value) : BindsTo s fd ⟨[u], []⟩ [(y, u)] := by
  obtain ⟨oc, od, kV, doc, pm, an, cdv, ct, osl, rfl, lk, hcd⟩ := F.ex
  exact .of_eq (h kV doc pm an cdv ct u)
/-- the walk, tables of any defs (methods too) -/
theorem walk_facts {l : PySem.W.OpenLaw} {n k : Nat} {q : Program} {loose : List Str} {XP : (Str → Option Value) → Heap → Prop} {YP : World → Heap → Prop} {d : DefRec} {x : Str}
    (hn : l.most = some n) (hn2 : n ≤ sizeLine) (hdf : d.params.defaults = []) (hr : Room k callerA)
    (F : ∀ (w : World) (mg : Str → Option Value) (fa : Addr) (h : Heap), YP w h → h.Ns mainGlobals mg → mg d.name = some (.ref fa) →
      ∃ (K : PySem.W.Frag) (fd : FuncData) (cs : List (Addr × Addr)) (sp : Sp), K.In h ∧ (∀ p ∈ cs, h.get? p.2 = some { cls := .none, data := .fields #[] } ∧ K.lookup p.2 = none ∧ PySem.W.CodeHd h p.1 p.2) ∧ (∀ (s : Shared) (u : Value), BindsTo s fd ⟨[u], []⟩ [(x, u)]) ∧
        (∀ (H : Hp) (a : Addr) (ns : List Int), ns.length ≤ n → (∀ p ∈ cs, Tab H p.2) → SqL K H a (ns.map V.int) → ∀ Q : VK, (∀ H', Ex H H' → Q (.bl true) H') → sp [.ref a] H Q fun _ _ _ => False) ∧
        ∀ base : Heap, K.In base → base.Ns mainGlobals mg → (∀ p ∈ cs, LamX.TabB base mg p.1 p.2) → FnOk l.prog w K mg base CX0 k fa fd [x] sp) :
    PySem.W.WalkO q loose XP YP l.row.toRowW d [] (fun f vs => PySem.call f vs) := by
  refine LamX.walk_ofTsE (x := x) (CX := fun _ => CX0) hn hn2 hdf hr (fun w mg fa h Y G hmg => ?_) (fun _ _ _ _ _ z => z)
  obtain ⟨K, fd, cs, sp, KX, hcs, hb, hsp, hF⟩ := F w mg fa h Y G hmg
  refine ⟨K, KX, fd, cs, spExt (cs.map fun p => p.2) sp, fun p hp => (hcs p hp).1, fun p hp => (hcs p hp).2.1, fun p hp => (hcs p hp).2.2, hb, fun H a ns hlen _ hH hS => ⟨fun b hb => ?_, ?_⟩, fun base h1 h2 h3 => ok_ext (hF base h1 h2 h3)⟩
  · obtain ⟨p, hp, rfl⟩ := List.mem_map.mp hb
    exact hH p hp
  · have hnt : ∀ p ∈ cs, extH (cs.map fun p => p.2) H p.2 = some (.ext (TabPhi p.2)) := fun p hp => extH_in (List.mem_map.mpr ⟨p, hp, rfl⟩)
    refine hsp _ a ns hlen hnt ?_ _ fun H' e => ⟨fun b hb => ?_, fun _ => rfl⟩
    · have out : ∀ {u : HO}, H a = some u → (∀ ts, u ≠ .tbl ts) → extH (cs.map fun p => p.2) H a = some u := fun {u} h1 h2 => by
        rw [extH_out fun hb => ?_]
        · exact h1
        · obtain ⟨p, hp, e⟩ := List.mem_map.mp hb
          have := hH p hp
          have e : p.2 = a := e
          rw [e, h1] at this
          cases this
          exact h2 _ rfl
      rcases hS with (h1 | ⟨o, h1⟩) | h1
      · exact .inl (.inl (out h1 fun _ z => by cases z))
      · exact .inl (.inr ⟨o, out h1 fun _ z => by cases z⟩)
      · exact .inr h1
    · obtain ⟨p, hp, rfl⟩ := List.mem_map.mp hb
      exact e _ _ (hnt p hp)
end HE

set_option Elab.async false
set_option linter.all false
set_option maxRecDepth 100000
set_option maxHeartbeats 4000000
namespace HF
open PySem PySem.Spec PyProof.Rows L2
/-! ### the head by facts, looked at in parts: a small part of the heap, some runs of the top -/
def namesOf (g : Addr → Option Obj) (a : Addr) : List Addr := match g a with
  | some ⟨_, _, .dict es _, _⟩ => es.toList.filterMap fun e => match e.val with
    | .ref b => some b
    | _ => none
  | _ => []
def codeAt (g : Addr → Option Obj) (f : Addr) : List Addr := match g f with
  | some ⟨_, _, .func fd, _⟩ => He.refV fd.code
  | _ => []
def partsOf (g : Addr → Option Obj) (a : Addr) : List Addr := match g a with
  | some ⟨_, _, .func fd, _⟩ => He.refV fd.code
  | some ⟨_, _, .cls cd, _⟩ => cd.ns :: (namesOf g cd.ns).flatMap fun f => f :: codeAt g f
  | _ => []
/-- what the facts of a top ask for: its names, their code, the classes' own names and their code -/
def needs (g : Addr → Option Obj) : List Addr := mainGlobals :: (namesOf g mainGlobals ++ (namesOf g mainGlobals).flatMap (partsOf g))
abbrev Kg (g : Addr → Option Obj) : PySem.W.Frag := He.frT g (needs g)
def seen (fa : List He.Fa) (fn : List He.DefD) (tf : List He.Defn) (ex : PySem.W.Frag → Bool) (g : Addr → Option Obj) : Bool × List He.FnW :=
  ((fa.all fun f => f.ok (Kg g)) && ((fn.all fun d => d.ok (Kg g)) && (ex (Kg g) && He.tabsB g tf (Kg g))), fn.map fun d => He.fnW (Kg g) d.at_)
theorem seen_of {fa : List He.Fa} {fn : List He.DefD} {tf : List He.Defn} {ex : PySem.W.Frag → Bool} {g : Addr → Option Obj} (h1 : (fa.all fun f => f.ok (Kg g)) = true) (h2 : (fn.all fun d => d.ok (Kg g)) = true) (h3 : (fn.map fun d => He.fnW (Kg g) d.at_) = fn.map He.DefD.val) (h4 : (ex (Kg g) && He.tabsB g tf (Kg g)) = true) : seen fa fn tf ex g = (true, fn.map He.DefD.val) := by
  unfold seen
  rw [h1, h2, h3, h4]
  rfl
theorem says_of {fa : List He.Fa} {fn : List He.DefD} {tf : List He.Defn} {ex : PySem.W.Frag → Bool} {w : World} {h : Heap} (e : seen fa fn tf ex h.get? = (true, fn.map He.DefD.val)) : He.SaysX fa fn [] tf ex w h (Kg h.get?) := by
  have z1 := congrArg (fun z : Bool × List He.FnW => z.1) e
  have z2 := congrArg (fun z : Bool × List He.FnW => z.2) e
  obtain ⟨y1, z3⟩ := He.ba z1
  obtain ⟨y2, z4⟩ := He.ba z3
  obtain ⟨y3, y4⟩ := He.ba z4
  have tb : ∀ p ∈ tf, PySem.W.codeHdIn (Kg h.get?) (He.cT (Kg h.get?) p).1 (He.cT (Kg h.get?) p).2 = true ∧ ∃ o, h.get? (He.cT (Kg h.get?) p).2 = some o ∧ He.emptyTab o = true := fun p hp => by
    obtain ⟨a1, a2⟩ := He.ba (List.all_eq_true.mp y4 p hp)
    refine ⟨a1, ?_⟩
    revert a2
    cases h.get? (He.cT (Kg h.get?) p).2 with
    | none => exact fun z => nomatch z
    | some o => exact fun z => ⟨o, rfl, z⟩
  constructor
  · show ((_, _), _) = ((_, _), _)
    rw [show ((fa.all fun f => f.ok (Kg h.get?)) && fn.all fun d => d.ok (Kg h.get?)) = true by rw [y1, y2]; rfl]
    exact congrArg (fun z => ((true, z), [])) z2
  · exact y3
  · exact fun p hp => (tb p hp).1
  · intro p hp
    obtain ⟨_, o, a, b⟩ := tb p hp
    exact He.frT_none a b
  · intro p hp
    obtain ⟨_, o, a, b⟩ := tb p hp
    rw [a, He.emptyTab_eq b]
def hookY (fa : List He.Fa) (fn : List He.DefD) (tf : List He.Defn) (ex : PySem.W.Frag → Bool) : PySem.W.Hook where
  α := Bool × List He.FnW
  obs := fun s => seen fa fn tf ex s.heap.get?
  val := fun _ => (true, fn.map He.DefD.val)
  says := fun w h => ∃ K : PySem.W.Frag, K.In h ∧ He.SaysX fa fn [] tf ex w h K
  of := fun _ _ e => ⟨_, He.frT_in, says_of e⟩
  keeps := fun w h h' y k => by
    obtain ⟨K, i, c⟩ := y
    exact ⟨K, i.keeps k, { c with empty := fun p hp => k _ _ (c.empty p hp) }⟩
theorem look_eq {fa : List He.Fa} {fn : List He.DefD} {tf : List He.Defn} {ex : PySem.W.Frag → Bool} (s : PySem.W.SharedT) : seen fa fn tf ex (HandSHeadRun.getT s) = (hookY fa fn tf ex).obs s.abs := by
  have e : HandSHeadRun.getT s = s.abs.heap.get? := funext fun a => HandSHeadRun.getT_eq s a
  rw [e]
  rfl
theorem at_ {α : Type} {o : Option PySem.W.SharedT} {p : PySem.W.SharedT → α} {v : α} (h : o.map p = some v) {s : PySem.W.SharedT} (e : o = some s) : p s = v := by
  rw [e] at h
  exact Option.some.inj h
theorem run_of {α β γ : Type} {o : Option PySem.W.SharedT} {l : PySem.W.SharedT → α} {n : PySem.W.SharedT → β} {ob : PySem.W.SharedT → γ} {x : α} {y : β} {v : γ} (h0 : o.map (fun s => (l s, n s)) = some (x, y)) (h1 : ∀ s, o = some s → ob s = v) : o.map (fun s => (l s, n s, ob s)) = some (x, y, v) := by
  cases o with
  | none => cases h0
  | some s =>
    have e := Option.some.inj h0
    have e1 : l s = x := congrArg (fun z : α × β => z.1) e
    have e2 : n s = y := congrArg (fun z : α × β => z.2) e
    show some (l s, n s, ob s) = _
    rw [e1, e2, h1 s rfl]
theorem all_app {α : Type} {p : α → Bool} {a b : List α} (h1 : a.all p = true) (h2 : b.all p = true) : (a ++ b).all p = true := by
  rw [List.all_append, h1, h2]
  rfl
theorem map_app {α β : Type} {p q : α → β} {a b : List α} (h1 : a.map p = a.map q) (h2 : b.map p = b.map q) : (a ++ b).map p = (a ++ b).map q := by
  rw [List.map_append, List.map_append, h1, h2]
end HF

set_option Elab.async false
set_option linter.all false
set_option maxRecDepth 100000
set_option maxHeartbeats 4000000
namespace NR
open PySem PySem.Spec PyProof.Rows L2 Evl LT LG LS LQ LX
/-! ### the tuple NODE_KEYS -/
def isKeys (o : Obj) : Bool := (match o.cls with | .type t => decide (t = "tuple") | _ => false) && (match o.data with | .seq xs _ => (match xs.toList with | [.int i _, .int j _] => decide (i = 4) && decide (j = 6) | _ => false) | _ => false)
def keysC (K : PySem.W.Frag) : Bool := match K.lookup (He.ga K "NODE_KEYS") with | some o => isKeys o | none => false
theorem keysC_ok {K : PySem.W.Frag} (h : keysC K = true) : ∀ H, SqT K H (He.ga K "NODE_KEYS") [.int 4, .int 6] := by
  intro H
  unfold keysC at h
  cases e : K.lookup (He.ga K "NODE_KEYS") with
  | none =>
    rw [e] at h
    cases h
  | some o =>
    rw [e] at h
    have h : isKeys o = true := h
    unfold isKeys at h
    obtain ⟨h1, h2⟩ := Bool.and_eq_true_iff.mp h
    obtain ⟨cls, dict, data, slots⟩ := o
    dsimp only at h1 h2
    cases cls with
    | type t =>
      have h1 : t = "tuple" := of_decide_eq_true h1
      subst h1
      cases data with
      | seq xs n =>
        obtain ⟨l⟩ := xs
        dsimp only at h2
        match l, h2 with
        | [.int i t1, .int j t2], h2 =>
          obtain ⟨h3, h4⟩ := Bool.and_eq_true_iff.mp h2
          have h3 : i = 4 := of_decide_eq_true h3
          have h4 : j = 6 := of_decide_eq_true h4
          subst h3 h4
          exact .inr ⟨_, _, _, e, rfl, rfl, sz_of (show 2 ≤ 100000 by decide), .cons ⟨_, rfl⟩ (.cons ⟨_, rfl⟩ .nil)⟩
      | _ => cases h2
    | _ => cases h1

end NR

set_option Elab.async false
set_option linter.all false
set_option maxRecDepth 100000
set_option maxHeartbeats 4000000
namespace NH
open PySem PySem.Spec PyProof.Rows L2 Evl  LT LG LS LQ LX
abbrev htop (i : Nat) : Stmt := PySem.Challenge.pw_laminae_k14_whole_tree_stays_balanced.main.body.getD i (.Pass ⟨0, 0, 0, 0⟩)
abbrev h1 : Stmt := htop 8
abbrev h2 : Stmt := htop 9
abbrev h3 : Stmt := htop 16
abbrev h4 : Stmt := inClass (htop 17) 0
abbrev h5 : Stmt := inClass (htop 17) 1
abbrev h6 : Stmt := inClass (htop 17) 9
abbrev h7 : Stmt := inClass (htop 17) 10
abbrev h8 : Stmt := inClass (htop 69) 0
abbrev h9 : Stmt := inClass (htop 69) 1
abbrev h10 : Stmt := inClass (htop 69) 2
abbrev h11 : Stmt := inClass (htop 69) 3
abbrev h12 : Stmt := inClass (htop 69) 4
abbrev h13 : Stmt := inClass (htop 69) 5
abbrev h14 : Stmt := inClass (htop 69) 7
abbrev h15 : Stmt := inClass (htop 69) 8
abbrev h16 : Stmt := inClass (htop 69) 9
abbrev h17 : Stmt := inClass (htop 69) 14
abbrev h18 : Stmt := inClass (htop 69) 15
abbrev h19 : Stmt := inClass (htop 69) 16
abbrev h20 : Stmt := htop 18
abbrev h21 : Stmt := inClass (htop 22) 0
abbrev h22 : Stmt := inClass (htop 71) 0
abbrev h23 : Stmt := inClass (htop 71) 2
abbrev h24 : Stmt := inClass (htop 71) 4
abbrev h25 : Stmt := inClass (htop 71) 5
abbrev h26 : Stmt := inClass (htop 71) 6
abbrev h27 : Stmt := inClass (htop 71) 7
abbrev h28 : Stmt := inClass (htop 71) 8
abbrev h29 : Stmt := inClass (htop 71) 9
abbrev h30 : Stmt := inClass (htop 71) 10
abbrev h31 : Stmt := inClass (htop 71) 11
abbrev h32 : Stmt := inClass (htop 71) 12
abbrev h33 : Stmt := inClass (htop 71) 13
abbrev h34 : Stmt := inClass (htop 71) 14
abbrev h35 : Stmt := htop 34
abbrev h36 : Stmt := htop 35
abbrev h37 : Stmt := htop 36
abbrev h38 : Stmt := htop 37
abbrev h39 : Stmt := htop 38
abbrev h40 : Stmt := htop 39
abbrev h41 : Stmt := htop 40
abbrev h42 : Stmt := htop 41
abbrev h43 : Stmt := htop 42
abbrev h44 : Stmt := htop 43
abbrev h45 : Stmt := htop 44
abbrev h46 : Stmt := htop 45
abbrev h47 : Stmt := htop 48
abbrev h48 : Stmt := htop 49
abbrev h49 : Stmt := htop 50
abbrev h50 : Stmt := htop 51
abbrev h51 : Stmt := htop 52
abbrev h52 : Stmt := htop 53
abbrev h53 : Stmt := htop 54
abbrev h54 : Stmt := htop 55
abbrev h55 : Stmt := htop 56
abbrev h56 : Stmt := htop 57
abbrev h57 : Stmt := htop 58
abbrev h58 : Stmt := htop 59
abbrev h59 : Stmt := htop 60
abbrev h60 : Stmt := htop 61
abbrev h61 : Stmt := htop 62
abbrev h62 : Stmt := htop 63
abbrev h63 : Stmt := htop 66
abbrev h64 : Stmt := htop 64
abbrev h65 : Stmt := htop 65
abbrev h66 : Stmt := htop 73
abbrev h67 : Stmt := htop 74
abbrev h68 : Stmt := htop 75
abbrev h69 : Stmt := htop 76
abbrev h70 : Stmt := htop 77
abbrev h71 : Stmt := htop 78
abbrev h72 : Stmt := htop 79
abbrev h73 : Stmt := htop 80
def d1 : He.DefD := ⟨("is_word", none), "is_word", "is_word", defArgs h1, defBody h1, defScope h1, [], []⟩
def d2 : He.DefD := ⟨("are_words", none), "are_words", "are_words", defArgs h2, defBody h2, defScope h2, [], []⟩
def d3 : He.DefD := ⟨("is_size", none), "is_size", "is_size", defArgs h3, defBody h3, defScope h3, [], []⟩
def d4 : He.DefD := ⟨("Disk", some "__init__"), "__init__", "Disk.__init__", defArgs h4, defBody h4, defScope h4, [], []⟩
def d5 : He.DefD := ⟨("Disk", some "read"), "read", "Disk.read", defArgs h5, defBody h5, defScope h5, [], []⟩
def d6 : He.DefD := ⟨("Disk", some "_is_sector"), "_is_sector", "Disk._is_sector", defArgs h6, defBody h6, defScope h6, [], []⟩
def d7 : He.DefD := ⟨("Disk", some "_begin_operation"), "_begin_operation", "Disk._begin_operation", defArgs h7, defBody h7, defScope h7, [], []⟩
def d8 : He.DefD := ⟨("Space", some "__init__"), "__init__", "Space.__init__", defArgs h8, defBody h8, defScope h8, [], []⟩
def d9 : He.DefD := ⟨("Space", some "take"), "take", "Space.take", defArgs h9, defBody h9, defScope h9, [], []⟩
def d10 : He.DefD := ⟨("Space", some "least_free"), "least_free", "Space.least_free", defArgs h10, defBody h10, defScope h10, [], []⟩
def d11 : He.DefD := ⟨("Space", some "share"), "share", "Space.share", defArgs h11, defBody h11, defScope h11, [], []⟩
def d12 : He.DefD := ⟨("Space", some "drop"), "drop", "Space.drop", defArgs h12, defBody h12, defScope h12, [], []⟩
def d13 : He.DefD := ⟨("Space", some "uses"), "uses", "Space.uses", defArgs h13, defBody h13, defScope h13, [], []⟩
def d14 : He.DefD := ⟨("Space", some "is_new"), "is_new", "Space.is_new", defArgs h14, defBody h14, defScope h14, [], []⟩
def d15 : He.DefD := ⟨("Space", some "is_free"), "is_free", "Space.is_free", defArgs h15, defBody h15, defScope h15, [], []⟩
def d16 : He.DefD := ⟨("Space", some "free"), "free", "Space.free", defArgs h16, defBody h16, defScope h16, [], []⟩
def d17 : He.DefD := ⟨("Space", some "_count_unused"), "_count_unused", "Space._count_unused", defArgs h17, defBody h17, defScope h17, [], []⟩
def d18 : He.DefD := ⟨("Space", some "_check_exists"), "_check_exists", "Space._check_exists", defArgs h18, defBody h18, defScope h18, [], []⟩
def d19 : He.DefD := ⟨("Space", some "_check_used"), "_check_used", "Space._check_used", defArgs h19, defBody h19, defScope h19, [], []⟩
def d20 : He.DefD := ⟨("read_block", none), "read_block", "read_block", defArgs h20, defBody h20, defScope h20, [], []⟩
def d21 : He.DefD := ⟨("Head", some "__init__"), "__init__", "Head.__init__", defArgs h21, defBody h21, defScope h21, [], []⟩
def d22 : He.DefD := ⟨("Store", some "__init__"), "__init__", "Store.__init__", defArgs h22, defBody h22, defScope h22, [], []⟩
def d23 : He.DefD := ⟨("Store", some "use_reserve"), "use_reserve", "Store.use_reserve", defArgs h23, defBody h23, defScope h23, [], []⟩
def d24 : He.DefD := ⟨("Store", some "generation"), "generation", "Store.generation", defArgs h24, defBody h24, defScope h24, [], []⟩
def d25 : He.DefD := ⟨("Store", some "read"), "read", "Store.read", defArgs h25, defBody h25, defScope h25, [], []⟩
def d26 : He.DefD := ⟨("Store", some "next_pointer"), "next_pointer", "Store.next_pointer", defArgs h26, defBody h26, defScope h26, [], []⟩
def d27 : He.DefD := ⟨("Store", some "make"), "make", "Store.make", defArgs h27, defBody h27, defScope h27, [], []⟩
def d28 : He.DefD := ⟨("Store", some "is_new"), "is_new", "Store.is_new", defArgs h28, defBody h28, defScope h28, [], []⟩
def d29 : He.DefD := ⟨("Store", some "write"), "write", "Store.write", defArgs h29, defBody h29, defScope h29, [], []⟩
def d30 : He.DefD := ⟨("Store", some "share"), "share", "Store.share", defArgs h30, defBody h30, defScope h30, [], []⟩
def d31 : He.DefD := ⟨("Store", some "drop"), "drop", "Store.drop", defArgs h31, defBody h31, defScope h31, [], []⟩
def d32 : He.DefD := ⟨("Store", some "uses"), "uses", "Store.uses", defArgs h32, defBody h32, defScope h32, [], []⟩
def d33 : He.DefD := ⟨("Store", some "require"), "require", "Store.require", defArgs h33, defBody h33, defScope h33, [], []⟩
def d34 : He.DefD := ⟨("Store", some "free"), "free", "Store.free", defArgs h34, defBody h34, defScope h34, [], []⟩
def d35 : He.DefD := ⟨("most_items", none), "most_items", "most_items", defArgs h35, defBody h35, defScope h35, [], []⟩
def d36 : He.DefD := ⟨("item_words", none), "item_words", "item_words", defArgs h36, defBody h36, defScope h36, [], []⟩
def d37 : He.DefD := ⟨("is_pointer", none), "is_pointer", "is_pointer", defArgs h37, defBody h37, defScope h37, [], []⟩
def d38 : He.DefD := ⟨("are_ascending", none), "are_ascending", "are_ascending", defArgs h38, defBody h38, defScope h38, [], []⟩
def d39 : He.DefD := ⟨("to_block", none), "to_block", "to_block", defArgs h39, defBody h39, defScope h39, [], []⟩
def d40 : He.DefD := ⟨("read_item", none), "read_item", "read_item", defArgs h40, defBody h40, defScope h40, [], []⟩
def d41 : He.DefD := ⟨("from_block", none), "from_block", "from_block", defArgs h41, defBody h41, defScope h41, [], []⟩
def d42 : He.DefD := ⟨("own_pointer", none), "own_pointer", "own_pointer", defArgs h42, defBody h42, defScope h42, [], []⟩
def d43 : He.DefD := ⟨("pointers", none), "pointers", "pointers", defArgs h43, defBody h43, defScope h43, [], []⟩
def d44 : He.DefD := ⟨("split_items", none), "split_items", "split_items", defArgs h44, defBody h44, defScope h44, [], []⟩
def d45 : He.DefD := ⟨("place_of", none), "place_of", "place_of", defArgs h45, defBody h45, defScope h45, [], []⟩
def d46 : He.DefD := ⟨("child_of", none), "child_of", "child_of", defArgs h46, defBody h46, defScope h46, [], []⟩
def d47 : He.DefD := ⟨("read_node", none), "read_node", "read_node", defArgs h47, defBody h47, defScope h47, [], []⟩
def d48 : He.DefD := ⟨("make_node", none), "make_node", "make_node", defArgs h48, defBody h48, defScope h48, [], []⟩
def d49 : He.DefD := ⟨("write_node", none), "write_node", "write_node", defArgs h49, defBody h49, defScope h49, [], []⟩
def d50 : He.DefD := ⟨("inner_item", none), "inner_item", "inner_item", defArgs h50, defBody h50, defScope h50, [], []⟩
def d51 : He.DefD := ⟨("own_node", none), "own_node", "own_node", defArgs h51, defBody h51, defScope h51, [], []⟩
def d52 : He.DefD := ⟨("empty_tree", none), "empty_tree", "empty_tree", defArgs h52, defBody h52, defScope h52, [], []⟩
def d53 : He.DefD := ⟨("has_key_at", none), "has_key_at", "has_key_at", defArgs h53, defBody h53, defScope h53, [], []⟩
def d54 : He.DefD := ⟨("look_up", none), "look_up", "look_up", defArgs h54, defBody h54, defScope h54, [], []⟩
def d55 : He.DefD := ⟨("put", none), "put", "put", defArgs h55, defBody h55, defScope h55, [], []⟩
def d56 : He.DefD := ⟨("put_below", none), "put_below", "put_below", defArgs h56, defBody h56, defScope h56, [], []⟩
def d57 : He.DefD := ⟨("write_split", none), "write_split", "write_split", defArgs h57, defBody h57, defScope h57, [], []⟩
def d58 : He.DefD := ⟨("take", none), "take", "take", defArgs h58, defBody h58, defScope h58, [], []⟩
def d59 : He.DefD := ⟨("take_below", none), "take_below", "take_below", defArgs h59, defBody h59, defScope h59, [], []⟩
def d60 : He.DefD := ⟨("with_child", none), "with_child", "with_child", defArgs h60, defBody h60, defScope h60, [], []⟩
def d61 : He.DefD := ⟨("join_children", none), "join_children", "join_children", defArgs h61, defBody h61, defScope h61, [], []⟩
def d62 : He.DefD := ⟨("without_old_roots", none), "without_old_roots", "without_old_roots", defArgs h62, defBody h62, defScope h62, [], []⟩
def d63 : He.DefD := ⟨("release_pointer", none), "release_pointer", "release_pointer", defArgs h63, defBody h63, defScope h63, [], []⟩
def d64 : He.DefD := ⟨("height", none), "height", "height", defArgs h64, defBody h64, defScope h64, [], []⟩
def d65 : He.DefD := ⟨("node_pointers", none), "node_pointers", "node_pointers", defArgs h65, defBody h65, defScope h65, [], []⟩
def d66 : He.DefD := ⟨("_law_cell", none), "_law_cell", "_law_cell", defArgs h66, defBody h66, defScope h66, [], []⟩
def d67 : He.DefD := ⟨("_law_store", none), "_law_store", "_law_store", defArgs h67, defBody h67, defScope h67, [], []⟩
def d68 : He.DefD := ⟨("_law_deeds", none), "_law_deeds", "_law_deeds", defArgs h68, defBody h68, defScope h68, [], []⟩
def d69 : He.DefD := ⟨("_law_key", none), "_law_key", "_law_key", defArgs h69, defBody h69, defScope h69, [], []⟩
def d70 : He.DefD := ⟨("_law_parts", none), "_law_parts", "_law_parts", defArgs h70, defBody h70, defScope h70, [], []⟩
def d71 : He.DefD := ⟨("_law_sound", none), "_law_sound", "_law_sound", defArgs h71, defBody h71, defScope h71, [], []⟩
def d72 : He.DefD := ⟨("_law_walk", none), "_law_walk", "_law_walk", defArgs h72, defBody h72, defScope h72, [], []⟩
def d73 : He.DefD := ⟨("law", none), "law", "law", defArgs h73, defBody h73, defScope h73, [], []⟩
def fn0 : List He.DefD := [d1, d2, d3, d4, d5, d6, d7, d8, d9, d10, d11, d12, d13, d14, d15, d16, d17, d18, d19, d20, d21, d22, d23, d24, d25, d26, d27, d28, d29, d30, d31, d32, d33, d34, d35, d36, d37, d38, d39, d40, d41, d42, d43, d44, d45, d46, d47, d48, d49, d50, d51, d52, d53, d54, d55, d56, d57, d58, d59, d60, d61, d62, d63, d64, d65, d66, d67, d68, d69, d70, d71, d72, d73]
def fnL : List He.DefD := fn0
def fa0 : List He.Fa := [.glo "is_word", .glo "are_words", .glo "is_size", .meth "Disk" "read", .meth "Disk" "_is_sector", .meth "Disk" "_begin_operation", .meth "Space" "take", .meth "Space" "least_free", .meth "Space" "share", .meth "Space" "drop", .meth "Space" "uses", .meth "Space" "is_new", .meth "Space" "is_free", .meth "Space" "free", .meth "Space" "_count_unused", .meth "Space" "_check_exists", .meth "Space" "_check_used", .glo "read_block", .meth "Store" "use_reserve", .meth "Store" "generation", .meth "Store" "read", .meth "Store" "next_pointer", .meth "Store" "make", .meth "Store" "is_new", .meth "Store" "write", .meth "Store" "share", .meth "Store" "drop", .meth "Store" "uses", .meth "Store" "require", .meth "Store" "free", .glo "most_items", .glo "item_words", .glo "is_pointer", .glo "are_ascending", .glo "to_block", .glo "read_item", .glo "from_block", .glo "own_pointer", .glo "pointers", .glo "split_items", .glo "place_of", .glo "child_of", .glo "read_node", .glo "make_node", .glo "write_node", .glo "inner_item", .glo "own_node", .glo "empty_tree", .glo "has_key_at", .glo "look_up", .glo "put", .glo "put_below", .glo "write_split", .glo "take", .glo "take_below", .glo "with_child", .glo "join_children", .glo "without_old_roots", .glo "release_pointer", .glo "height", .glo "node_pointers", .glo "_law_cell", .glo "_law_store", .glo "_law_deeds", .glo "_law_key", .glo "_law_parts", .glo "_law_sound", .glo "_law_walk", .glo "law", .free "len", .free "range", .free "list", .free "tuple", .free "sorted", .free "isinstance", .free "abs", .free "int", .free "bool", .free "min", .free "max", .free "zip", .free "all", .free "any", .int "BLOCK_WORDS" 32, .int "BLOCK_SECTORS" 4, .int "FIRST_BLOCK" 5, .int "ADD" 60, .int "MIN_BLOCKS" 96, .int "MAX_BLOCKS" 256, .int "SECTOR_WORDS" 8, .int "LEAF" 1, .int "INNER" 2, .int "LEAF_ITEMS" 4, .int "INNER_ITEMS" 5, .int "LEAF_ITEM_WORDS" 7, .int "INNER_ITEM_WORDS" 5, .int "KEY_WORDS" 3, .int "FIRST_ITEM" 4, .int "DATA_KEY" 3, .int "LEAST_ITEMS" 2, .glo "NODE_KEYS", .glo "Disk", .cls "Disk", .keep "Disk", .noat "Disk" "blocks", .noat "Disk" "_kept", .noat "Disk" "_shown", .noat "Disk" "_writes", .noat "Disk" "_powered", .noat "Disk" "_before_failure", .mkr "Disk", .glo "Space", .cls "Space", .keep "Space", .noat "Space" "blocks", .noat "Space" "_counts", .noat "Space" "_held", .mkr "Space", .glo "Head", .cls "Head", .keep "Head", .noat "Head" "generation", .noat "Head" "table", .noat "Head" "blocks", .mkr "Head", .glo "Store", .cls "Store", .keep "Store", .noat "Store" "disk", .noat "Store" "head", .noat "Store" "space", .noat "Store" "table", .noat "Store" "reserve", .noat "Store" "_memory", .mkr "Store", .glo "NotValid", .exc "NotValid", .glo "NoSpace", .exc "NoSpace", .glo "PowerOff", .exc "PowerOff"]
def faL : List He.Fa := fa0
def tfL : List He.Defn := [("are_ascending", none), ("from_block", none), ("are_words", none)]
def exL (K : PySem.W.Frag) : Bool := (HE.dictC K "NotValid" && (HE.dictC K "NoSpace" && (HE.dictC K "PowerOff" && (NR.keysC K && true))))
abbrev R : PySem.W.OpenRow := PySem.W.OpenLaw.row PySem.Challenge.rw_laminae_k14_whole_tree_stays_balanced
abbrev hk : PySem.W.Hook := HF.hookY faL fnL tfL exL
def ob (s : PySem.W.SharedT) : Bool × List He.FnW := HF.seen faL fnL tfL exL (HandSHeadRun.getT s)
theorem ob_eq (s : PySem.W.SharedT) : ob s = hk.obs s.abs := HF.look_eq s
def looseL : List PySem.Str := (["_wall", "LaminaError", "NotValid", "PowerOff", "NoSpace", "BadImage", "is_word", "are_words", "MIN_BLOCKS", "MAX_BLOCKS", "SECTOR_WORDS", "BLOCK_WORDS", "BLOCK_SECTORS", "is_size", "Disk", "read_block", "LOG_BLOCKS", "FIRST_BLOCK", "Head", "LEAF", "INNER", "LEAF_ITEMS", "INNER_ITEMS", "LEAF_ITEM_WORDS", "INNER_ITEM_WORDS", "KEY_WORDS", "FIRST_ITEM", "DATA_KEY", "NODE_KEYS", "most_items"] : List PySem.Str) ++ (["item_words", "is_pointer", "are_ascending", "to_block", "read_item", "from_block", "own_pointer", "pointers", "split_items", "place_of", "child_of", "LEAST_ITEMS", "read_node", "make_node", "write_node", "inner_item", "own_node", "empty_tree", "has_key_at", "look_up", "put", "put_below", "write_split", "take", "take_below", "with_child", "join_children", "without_old_roots", "height", "node_pointers"] : List PySem.Str) ++ (["release_pointer", "ADD", "Space", "Store", "_law_cell", "_law_store", "_law_deeds", "_law_key", "_law_parts", "_law_sound", "_law_walk"] : List PySem.Str)
noncomputable abbrev en (w : World) (os : OsState) : Option PySem.W.SharedT := HandSHeadRun.endF (HandSHeadRun.stepQ (HandSHeadRun.denQ HandSHeadRun.tabQ) R.prog w) 7000 R.prog w os
abbrev Ks (s : PySem.W.SharedT) : PySem.W.Frag := HF.Kg (HandSHeadRun.getT s)
set_option maxHeartbeats 0 in
theorem run0 (w : World) (os : OsState) : (en w os).map (fun s => (HandSHeadRun.looksF R.prog (PySem.W.boot_heap w.params) s.abs, HandSHeadRun.seenQ (PySem.W.view R.prog [80]) looseL (PySem.importedModules R.prog.main.body) (fun s => PySem.W.xlAt (PySem.W.view R.prog [80]) [] s && PySem.W.recOk R.toRowW.records s) s.abs)) = some (true, PySem.W.openGood (PySem.W.view R.prog [80]) looseL) := by
  kernel_rfl
set_option maxHeartbeats 0 in
theorem rf0 (w : World) (os : OsState) : (en w os).map (fun s => fa0.all fun f => f.ok (Ks s)) = some true := by
  kernel_rfl
set_option maxHeartbeats 0 in
theorem rd0 (w : World) (os : OsState) : (en w os).map (fun s => (fn0.all fun d => d.ok (Ks s), fn0.map fun d => He.fnW (Ks s) d.at_)) = some (true, fn0.map He.DefD.val) := by
  kernel_rfl
set_option maxHeartbeats 0 in
theorem rx (w : World) (os : OsState) : (en w os).map (fun s => (exL (Ks s) && He.tabsB (HandSHeadRun.getT s) tfL (Ks s))) = some true := by
  kernel_rfl
theorem run (w : World) : HandSHeadRun.RunEq R (PySem.W.view R.prog [80]) hk ob 7000 looseL w := fun os => by
  refine HF.run_of (run0 w os) fun s e => HF.seen_of ?_ ?_ ?_ (HF.at_ (rx w os) e)
  · exact (HF.at_ (rf0 w os) e)
  · exact (congrArg (fun z : Bool × List He.FnW => z.1) (HF.at_ (rd0 w os) e))
  · exact (congrArg (fun z : Bool × List He.FnW => z.2) (HF.at_ (rd0 w os) e))
end NH

set_option Elab.async false
set_option linter.all false
set_option maxRecDepth 100000
set_option maxHeartbeats 4000000
namespace LH
open PySem PySem.Spec PyProof.Rows L2 Evl LT LG
/-! ### generator expressions, whatever their elements do -/
/-- the context of a generator's frame: its own stack, what stands at its start -/
abbrev gnb (X : Cx) (A' : Around) (s : Shared) (H : Hp) (cenv : Env) (fp : List Addr) : Cx :=
  { X with A := A', s_0 := s, H_0 := H, env := cenv, outer := X.stack, stack := cenv :: X.stack, ex := fp, fn := fun _ => false, calm := true, pn := [], xe := fun _ _ => False }
/-- the frame's own environment -/
abbrev gnE (X : Cx) (scope : Scope) (C : Addr) (code : Value) : Env := genEnv scope (cloFrom X.env.cells scope.names []) C code builtinsNs X.env
section
variable {X : Cx} {pins : List (Addr × Obj)} {σ : L2.St} {H : Hp} {s : Shared}
theorem clo_back {cells : List (Str × Addr)} {scope : Scope} (hfree : ∀ y ∈ scope.names, y.2 = .free → ∃ c, cells.lookup y.1 = some c) {y : Str} {c : Addr} (e : (cloFrom cells scope.names []).lookup y = some c) : (y, NameKind.free) ∈ scope.names ∧ cells.lookup y = some c := by
  rcases cloFrom_mem (PySem.mem_of_lookup e) with h | ⟨h1, h2⟩
  · cases h
  · obtain ⟨d, hd⟩ := hfree _ h1 rfl
    have hd' : cells.lookup y = some d := hd
    rw [hd'] at h2
    exact ⟨h1, by rw [hd', h2]; rfl⟩
theorem gen_begin {A' : Around} {scope : Scope} {own : List (Str × Nat)} {fp : List Addr} {code : Value} {m : Str → Option Value} {h' : Heap} {g' : Array GenState} {t' : Nat} (I : Inv X pins σ H s) (ok : BlkOk X.N X.env.scope scope own) (hcell : ∀ y ∈ scope.names, y.2 ≠ .cell) (hN : X.N.Nodup)
    (hfp : ∀ b ∈ fp, FpOk X pins H b ∧ b < s.heap.objs.size) (hA : A'.handled = none) (hfr : A'.frames = some (gnE X scope s.heap.objs.size code :: X.stack)) (hk : ∀ b o, s.heap.get? b = some o → h'.get? b = some o) (hn : h'.Ns s.heap.objs.size m) (hg : AllBare g') :
    Inv (gnb X A' s H (gnE X scope s.heap.objs.size code) fp) [] (wipe σ (own.map (·.2))) H { s with heap := h', gens := g', toks := t' } := by
  have hfree : ∀ y ∈ scope.names, y.2 = .free → ∃ c, X.env.cells.lookup y.1 = some c := fun y hy e => (ok.free y hy e).elim (fun k => I.ok.has _ (.inl k)) fun k => I.ok.has _ (.inr k)
  have back : ∀ {y : Str} {c : Addr}, (gnE X scope s.heap.objs.size code).cells.lookup y = some c → (y, NameKind.free) ∈ scope.names ∧ X.env.cells.lookup y = some c := fun {y c} e => clo_back hfree e
  have clt : ∀ {y : Str} {c : Addr}, X.env.cells.lookup y = some c → c < s.heap.objs.size := fun {y c} e => let ⟨_, z⟩ := I.cell _ _ e; z.lt
  have fwd : ∀ {y : Str}, scope.names.lookup y = some .free → ∃ c, (gnE X scope s.heap.objs.size code).cells.lookup y = some c ∧ X.env.cells.lookup y = some c := fun {y} hl =>
    let ⟨c, hc⟩ := hfree _ (PySem.mem_of_lookup hl) rfl
    ⟨c, clo_lookup (PySem.mem_of_lookup hl) hc, hc⟩
  have okG : (gnb X A' s H (gnE X scope s.heap.objs.size code) fp).Ok := by
    refine ⟨I.ok.mod, ok.kind, I.ok.glob, rfl, Nat.le_refl _, fun y z c e1 e2 => I.ok.inj y z c (back e1).2 (back e2).2, fun y hy => ?_, fun y c z => (Bool.noConfusion (show false = true from z)), fun _ => hA, hfr, .inr ⟨rfl, rfl⟩, fun b hb => ⟨Nat.ne_of_lt (hfp b hb).2, fun y c e z => (hfp b hb).1.2.2.2.2.1 y c (back e).2 z⟩, I.bs, Nat.le_trans I.ok.bsz I.sz, fun b o e hb => ?_, fun b hb z => ?_, I.stack, I.stkFree⟩
    · rcases hy with hy | hy
      · exact absurd rfl (hcell _ (PySem.mem_of_lookup (show scope.names.lookup y = some .cell from hy)))
      · obtain ⟨c, h1, _⟩ := fwd (show scope.names.lookup y = some .free from hy)
        exact ⟨c, h1⟩
    · rcases (hfp b hb).1.2.2.2.1 with z | z
      · exact I.ok.noex b o e z
      · exact Nat.lt_irrefl _ (Nat.lt_of_lt_of_le (Nat.lt_of_lt_of_le (Heap.lt_size e) I.ok.bsz) z)
    · rcases List.mem_cons.mp (I.stkSub b z) with z | z
      · exact (hfp b hb).1.2.1 z
      · exact (hfp b hb).1.2.2.1 z
  refine ⟨okG, rfl, hg, Un.kept hk, ⟨m, hn, fun i y av e1 e2 e3 => ?_⟩, fun y c e => ?_, I.hok.fresh (Nat.le_refl _), fun y c e => I.freeC y c (back e).2, fun p hp => absurd (show p ∈ ([] : List (Addr × Obj)) ++ [] from hp) (by simp), I.hok.kept hk, by rw [wipe_length]; exact I.len⟩
  · obtain ⟨e2, hne⟩ := wipe_some e2
    have hfr : scope.names.lookup y = some .free := by
      have no : ∀ k, scope.names.lookup y = some k → ¬ (k = .local ∨ k = .cell) := fun k hk hh => by
        rcases ok.own _ (PySem.mem_of_lookup hk) hh with e' | e'
        · obtain ⟨p, hp, hpy⟩ := List.mem_map.mp e'
          have e4 := ok.ix p hp
          have : p.1 = y := hpy
          rw [this] at e4
          exact hne (List.mem_map.mpr ⟨p, hp, nodup_ix hN e4 e1⟩)
        · exact e' (List.mem_of_getElem? e1)
      rcases (show Vis scope y from e3) with e3 | e3 | e3
      · exact absurd (.inl rfl) (no _ e3)
      · exact absurd (.inr rfl) (no _ e3)
      · exact e3
    obtain ⟨m0, _, hl⟩ := I.loc
    have hvis : Vis X.env.scope y := (ok.free _ (PySem.mem_of_lookup hfr) rfl).elim (fun k => .inr (.inl k)) fun k => .inr (.inr k)
    obtain ⟨w, r, q⟩ := hl i y av e1 e2 hvis
    obtain ⟨c, h1, h2⟩ := fwd hfr
    refine ⟨w, r, .inr ⟨.inr hfr, c, h1, ?_⟩⟩
    rcases q with ⟨k, _⟩ | ⟨_, c', e', z⟩
    · have k : X.env.scope.names.lookup y = some .local := k
      rcases ok.free _ (PySem.mem_of_lookup hfr) rfl with k' | k' <;> rw [show X.env.scope.names.lookup y = _ from k'] at k <;> cases k
    · rw [h2] at e'; cases e'
      exact z.keeps hk
  · obtain ⟨w, z⟩ := I.cell y c (back e).2
    exact ⟨w, z.keeps hk⟩
/-! ### turns -/
/-- what stands between two turns: i taken -/
def Btw (Y : Cx) (a : Addr) (oa : Obj) (τ : L2.St) (fp : List Addr) (tn : Nat → Heap → Prop) (W : Nat → Hp → Prop) (Sp : List Addr) (i : Nat) (s : Shared) : Prop :=
  ∃ (H' : Hp) (ps : List (Addr × Obj)), ps.map (·.1) = Sp ∧ Inv Y ((a, oa) :: ps) τ H' s ∧ tn i s.heap ∧ (∀ b ∈ fp, FpOk Y ((a, oa) :: ps) H' b) ∧ W i H'
/-- the end -/
def Gone (Y : Cx) (a : Addr) (oa : Obj) (τ : L2.St) (W : Nat → Hp → Prop) (n : Nat) (Sp : List Addr) (s : Shared) : Prop :=
  ∃ (H' : Hp) (ps : List (Addr × Obj)) (i : Nat), i ≤ n ∧ ps.map (·.1) = Sp ∧ Inv Y ((a, oa) :: ps) τ H' s ∧ W i H'
def Same (Sp : List Addr) (s s' : Shared) : Prop := ∀ b ∈ Sp, ∃ o, s.heap.get? b = some o ∧ s'.heap.get? b = some o
theorem Same.trans {Sp : List Addr} {s s1 s2 : Shared} (a : Same Sp s s1) (b : Same Sp s1 s2) : Same Sp s s2 := fun x hx => by
  obtain ⟨o, h1, h2⟩ := a x hx
  obtain ⟨o', h3, h4⟩ := b x hx
  rw [h2] at h3
  cases h3
  exact ⟨o, h1, h4⟩
theorem same_pins {Y : Cx} {p : Addr × Obj} {ps q1 q2 : List (Addr × Obj)} {τ τ' : L2.St} {H H' : Hp} {s s' : Shared} (I : Inv Y (p :: ps ++ q1) τ H s) (I' : Inv Y (p :: ps ++ q2) τ' H' s') : Same (ps.map (·.1)) s s' := fun b hb => by
  obtain ⟨x, hx, rfl⟩ := List.mem_map.mp hb
  have m : ∀ q, x ∈ Y.pn ++ (p :: ps ++ q) := fun q => List.mem_append_right _ (List.mem_append_left _ (List.mem_cons_of_mem _ hx))
  exact ⟨x.2, (I.pin x (m _)).1, (I'.pin x (m _)).1⟩
theorem same_pins0 {Y : Cx} {p : Addr × Obj} {ps : List (Addr × Obj)} {τ τ' : L2.St} {H H' : Hp} {s s' : Shared} (I : Inv Y (p :: ps) τ H s) (I' : Inv Y (p :: ps) τ' H' s') : Same (ps.map (·.1)) s s' :=
  same_pins (q1 := []) (q2 := []) (by simpa using I) (by simpa using I')
/-- what is handed out -/
def GPr (vals : Nat → V) (n : Nat) (Sp : List Addr) (J : Nat → Shared → Prop) : Protocol := fun m s₀ v s kap =>
  ∃ i, i + m + 1 = n ∧ RelV (vals i) v ∧ Same Sp s₀ s ∧ J (i + 1) s ∧ ∀ s'', J (i + 1) s'' → kap (.send .none) s''
theorem seg_turns {A₁ : Around} {elt tg iter : Expr} {scope : Scope} {pos : Pos} {it a : Addr} {oa : Obj} {cenv : Env} {Y : Cx} {fp : List Addr} {tn : Nat → Heap → Prop} {J : It} {W : Nat → Hp → Prop} {Sp : List Addr} {n : Nat} {vals : Nat → V} {g : TG} {te : TE} {vs : List Nat} {σ : L2.St}
    (hYA : Y.A = A₁.over (.compLoop (.GeneratorExp elt [⟨tg, iter, [], 0⟩] scope pos) 0 (.ref it) .none cenv) []) (hYe : Y.env = cenv) (hc : Y.calm = true) (hxe : Y.xe = fun _ _ => False) (hco : cenv.scope.isCoroutine = false) (T : Turn Y.prog Y.w Y.K tg J fp it tn) (pg : PG Y tg g) (pe : PE Y elt te)
    (turn : ∀ i H', i < n → W i H' → J.go i H' ∧ ∀ x H2, J.yld i H' x H2 → g x (wipe σ vs) H2 fun σ2 H3 => wipe σ2 vs = wipe σ vs ∧ te σ2 H3 fun y H4 => y = vals i ∧ W (i + 1) H4) (stop : ∀ H', W n H' → J.stop n H') :
    ∀ (k i : Nat) (s₀ s : Shared), n - i = k → i ≤ n → Same Sp s₀ s → Btw Y a oa (wipe σ vs) fp tn W Sp i s →
      Seg (model Y.prog Y.w) A₁ (fun m s₀ r s₁ => r = .ok .next ∧ (m = 0 ∧ (Same Sp s₀ s₁ ∧ Gone Y a oa (wipe σ vs) W n Sp s₁))) (GPr vals n Sp (Btw Y a oa (wipe σ vs) fp tn W Sp)) (n - i) s₀
        (.compLoop (.GeneratorExp elt [⟨tg, iter, [], 0⟩] scope pos) 0 (.ref it) .none cenv) ((model Y.prog Y.w).den (.compLoop (.GeneratorExp elt [⟨tg, iter, [], 0⟩] scope pos) 0 (.ref it) .none cenv)) [] s := by
  intro k
  induction k with
  | zero =>
    intro i s₀ s hk hi hS ⟨H', ps, hps, I, st, hf, w⟩
    obtain rfl : i = n := by omega
    show Seg _ A₁ _ _ _ s₀ _ ((compTurn (.GeneratorExp elt [⟨tg, iter, [], 0⟩] scope pos) 0 (.ref it) .none cenv).onRaise (leaving cenv)) [] s
    rw [compTurn_gen, Sem.onRaise_eq_wrap]
    refine seg_bind_wrap (wpAny_standAt (seg_bind_wrap ?_))
    have td := T.done Y rfl rfl rfl hc i _ s _ H' (fun _ _ => False) I hf st (stop _ w)
    rw [hYA] at td
    refine thnF td fun r s1 ⟨hr, I1⟩ => ?_
    subst hr
    exact seg_end (.ok .next) ⟨rfl, by omega, hS.trans (hps ▸ same_pins0 I I1), H', ps, i, Nat.le_refl _, hps, I1, w⟩
  | succ k ih =>
    intro i s₀ s hk hi hS ⟨H', ps, hps, I, st, hf, w⟩
    have hlt : i < n := by omega
    obtain ⟨m, hm⟩ : ∃ m, n - i = m + 1 := ⟨n - i - 1, by omega⟩
    show Seg _ A₁ _ _ _ s₀ _ ((compTurn (.GeneratorExp elt [⟨tg, iter, [], 0⟩] scope pos) 0 (.ref it) .none cenv).onRaise (leaving cenv)) [] s
    rw [compTurn_gen, Sem.onRaise_eq_wrap]
    refine seg_bind_wrap (wpAny_standAt (seg_bind_wrap ?_))
    obtain ⟨go, step⟩ := turn i H' hlt w
    have ti := T.item Y rfl rfl rfl hc i _ s _ H' (fun _ _ => False) I hf st go
    rw [hYA] at ti
    refine thnF ti fun r s6 ⟨u, hr, h6⟩ => ?_
    subst hr
    refine seg_bind_wrap (thnF h6 fun _ s7 ⟨x, H7, I7, r7, y7, st7, n7⟩ => ?_)
    have hf7 : ∀ b ∈ fp, FpOk Y ((a, oa) :: ps) H7 b := fun b hb => ⟨n7 b hb, (hf b hb).2⟩
    have I7' := I7.pinned hf7 (T.obj _ _ st7)
    have pgr := pg.run _ s7 _ H7 x u _ I7' r7 (step x H7 y7)
    rw [hYA, hYe, hxe] at pgr
    refine seg_bind_wrap (thnF pgr fun _ s8 ⟨σ8, H8, I8, hw8, q8⟩ => ?_)
    refine seg_bind_wrap (wpAny_tests_nil ?_)
    simp only [if_true]
    have hy : ∀ v, yieldOut cenv v = yieldValue v := fun v => by simp only [yieldOut, hco, Bool.false_eq_true, if_false]
    simp only [hy]
    rw [Sem.bind_eq_wrap', Sem.bind_eq_wrap', Sem.wrap_wrap, Sem.wrap_wrap, hm]
    have per := pe.run _ s8 σ8 H8 _ I8 q8
    rw [hYA, hYe, hxe] at per
    refine seg_wrap (thnF per fun v s9 ⟨y, H9, I9, r9, ey, w9⟩ => ?_)
    subst ey
    have keep : ∀ b ∈ fp, ∀ o, s7.heap.get? b = some o → s9.heap.get? b = some o ∧ H9 b = none := fun b hb o e =>
      let z := I9.pin (b, o) (List.mem_append_right _ (List.mem_append_right _ (mem_pinsAt hb e)))
      ⟨z.1, z.2.1⟩
    have hl : (wipe σ vs).length = σ8.length := by rw [← hw8, wipe_length]
    have B9 : Btw Y a oa (wipe σ vs) fp tn W Sp (i + 1) s9 := ⟨H9, ps, hps, (I9.unpinned).weak hl fun j v e => by
        rw [← hw8] at e
        exact (wipe_some e).1, T.keep _ _ _ st7 fun b hb o e => (keep b hb o e).1, fun b hb => by
        obtain ⟨o, e, _⟩ := T.obj _ _ st7 b hb
        exact ⟨(keep b hb o e).2, (hf b hb).2⟩, w9⟩
    have S9 : Same Sp s₀ s9 := hS.trans (hps ▸ same_pins (q1 := []) (by simpa using I) I9)
    refine seg_at (seg_yield rfl rfl rfl ⟨i, by omega, r9, S9, B9, fun s'' B'' => ?_⟩)
    have e1 : m = n - (i + 1) := by omega
    rw [e1]
    exact seg_again rfl (ih (i + 1) s'' s'' (by omega) hlt (fun b hb => by
      obtain ⟨H2, ps2, hps2, I2, _⟩ := B''
      rw [← hps2] at hb
      obtain ⟨z, hz, rfl⟩ := List.mem_map.mp hb
      exact ⟨z.2, (I2.pin z (List.mem_append_right _ (List.mem_cons_of_mem _ hz))).1, (I2.pin z (List.mem_append_right _ (List.mem_cons_of_mem _ hz))).1⟩) B'')
end
end LH
namespace LH
open PySem PySem.Spec PyProof.Rows L2 Evl LT LG
section
variable {prog : Program} {w : World} {A : Around} {E : Value → Shared → Prop} {s : Shared}
/-- the generator number g, j of its n items taken -/
def GSt (prog : Program) (w : World) (A : Around) (g n : Nat) (vals : Nat → V) (Sp : List Addr) (J : Nat → Shared → Prop) (Fn : Shared → Prop) (j : Nat) (s : Shared) : Prop :=
  J j s ∧ ∃ gs, s.gens[g]? = some gs ∧ ∀ s'', J j s'' → gs.Goes (model prog w) A.in1 (fun m s₀ r s₁ => r = .ok .next ∧ (m = 0 ∧ (Same Sp s₀ s₁ ∧ Fn s₁))) (GPr vals n Sp J) (n - j) (.send .none) s''
structure JOk (a : Addr) (g : Nat) (J : Nat → Shared → Prop) (Fn : Shared → Prop) : Prop where
  gen : ∀ j s, J j s → s.heap.IsGen a g
  lim : ∀ j s, J j s → s.heap.NoLimit
  set : ∀ j s x, x.bare = true → J j s → J j (s.setGen g x)
  fin : ∀ s h', Fn s → (∀ b o, s.heap.get? b = some o → h'.get? b = some o) → Fn { s.setGen g .finished with heap := h' }
/-- what a consumer may do with the iterator at a -/
structure WG (prog : Program) (w : World) (A : Around) (a : Addr) (n : Nat) (vals : Nat → V) (Sp : List Addr) (St : Nat → Shared → Prop) (Fin : Shared → Prop) : Prop where
  item : ∀ i (s : Shared) (Q : Option Value → Shared → Prop) (E : Value → Shared → Prop), i < n → St i s → (∀ v s', RelV (vals i) v → St (i + 1) s' → Same Sp s s' → Q (some v) s') → wpAny (model prog w) A (pyNext (.ref a)) Q E s
  done : ∀ (s : Shared) (Q : Option Value → Shared → Prop) (E : Value → Shared → Prop), St n s → (∀ s', Fin s' → Same Sp s s' → Q none s') → wpAny (model prog w) A (pyNext (.ref a)) Q E s
  self : ∀ i (s : Shared) (Q : Value → Shared → Prop) (E : Value → Shared → Prop), St i s → Q (.ref a) s → wpAny (model prog w) A (pyIter (.ref a)) Q E s
  fin : ∀ i s, i ≤ n → St i s → Fin s
  upd : ∀ i (s : Shared) h' tk, St i s → (∀ b o, b ∉ Sp → s.heap.get? b = some o → h'.get? b = some o) → (∀ b ∈ Sp, ∃ o, h'.get? b = some o ∧ ∀ v, o.data ≠ .cell v) → St i { s with heap := h', toks := tk }
  finU : ∀ (s : Shared) h' tk, Fin s → (∀ b o, b ∉ Sp → s.heap.get? b = some o → h'.get? b = some o) → (∀ b ∈ Sp, ∃ o, h'.get? b = some o ∧ ∀ v, o.data ≠ .cell v) → Fin { s with heap := h', toks := tk }
theorem WG.of_in1 {a : Addr} {n : Nat} {vals : Nat → V} {Sp : List Addr} {St : Nat → Shared → Prop} {Fin : Shared → Prop} (W : WG prog w A.in1 a n vals Sp St Fin) : WG prog w A a n vals Sp St Fin :=
  ⟨fun i s Q E hi st hQ => wpAny_of_in1 (W.item i s Q E hi st hQ), fun s Q E st hQ => wpAny_of_in1 (W.done s Q E st hQ), fun i s Q E st hQ => wpAny_of_in1 (W.self i s Q E st hQ), W.fin, W.upd, W.finU⟩
theorem gst_item {a : Addr} {g n j : Nat} {vals : Nat → V} {Sp : List Addr} {J : Nat → Shared → Prop} {Fn : Shared → Prop} {Q : Option Value → Shared → Prop} (hh : A.handled = none) (hroom : A.depth < recursionLimit) (K : JOk a g J Fn) (hj : j < n) (st : GSt prog w A g n vals Sp J Fn j s)
    (hQ : ∀ v s', RelV (vals j) v → GSt prog w A g n vals Sp J Fn (j + 1) s' → Same Sp s s' → Q (some v) s') : wpAny (model prog w) A (pyNext (.ref a)) Q E s := by
  obtain ⟨hJ, gs, hgs, hgo⟩ := st
  obtain ⟨m, hm⟩ : ∃ m, n - j = m + 1 := ⟨n - j - 1, by omega⟩
  rw [hm] at hgo
  refine GenW.wpAny_gsz (Nat.le_refl s.gens.size) (wpAny_pyNext_genexpQ (P := fun k s₀ s₁ => k = 0 ∧ (Same Sp s₀ s₁ ∧ Fn s₁)) hh (K.lim _ _ hJ) hroom (K.gen _ _ hJ) hgs (hgo _ (K.set _ _ _ rfl hJ)) (fun v s₁ gs' hb hv => ?_) (fun s₁ hp h' hk => absurd hp.1 (Nat.succ_ne_zero m)))
  obtain ⟨i, hi, hr, hS, hJ1, hkap⟩ := hv
  intro hsz
  obtain rfl : i = j := by omega
  have hgl : g < s₁.gens.size := by
    rw [GenW.setGen_size] at hsz
    exact Nat.lt_of_lt_of_le (Array.getElem?_eq_some_iff.mp hgs).1 hsz
  refine hQ v _ hr ⟨K.set _ _ _ hb hJ1, gs', by simp [Shared.setGen, hgl], fun s'' hs => ?_⟩ hS
  have e : n - (i + 1) = m := by omega
  rw [e]
  exact hkap s'' hs
theorem gst_done {a : Addr} {g n : Nat} {vals : Nat → V} {Sp : List Addr} {J : Nat → Shared → Prop} {Fn : Shared → Prop} {Q : Option Value → Shared → Prop} (hh : A.handled = none) (hroom : A.depth < recursionLimit) (K : JOk a g J Fn) (st : GSt prog w A g n vals Sp J Fn n s)
    (hQ : ∀ s', Fn s' → Same Sp s s' → Q none s') : wpAny (model prog w) A (pyNext (.ref a)) Q E s := by
  obtain ⟨hJ, gs, hgs, hgo⟩ := st
  rw [Nat.sub_self] at hgo
  refine wpAny_pyNext_genexpQ (P := fun k s₀ s₁ => k = 0 ∧ (Same Sp s₀ s₁ ∧ Fn s₁)) hh (K.lim _ _ hJ) hroom (K.gen _ _ hJ) hgs (hgo _ (K.set _ _ _ rfl hJ)) (fun v s₁ gs' hb hv => ?_) (fun s₁ hp h' hk => ?_)
  · obtain ⟨i, _, _, _, hJ1, hkap⟩ := hv
    exact (hkap s₁ hJ1).elim
  · exact hQ _ (K.fin _ _ hp.2.2 hk) fun b hb => let ⟨o, h1, h2⟩ := hp.2.1 b hb; ⟨o, h1, hk _ _ h2⟩
end
/-! ### consumers -/
section
variable {prog : Program} {w : World} {A : Around} {E : Value → Shared → Prop} {R : Result → Shared → Prop} {s : Shared} {a : Addr} {n : Nat} {vals : Nat → V} {St : Nat → Shared → Prop} {Fin : Shared → Prop}
theorem drop_at {n i : Nat} (h : i < n) : (List.range n).drop i = i :: (List.range n).drop (i + 1) := by
  rw [List.drop_eq_getElem_cons (by rw [List.length_range]; exact h), List.getElem_range]
theorem all_turns {f : Nat → Bool} (W : WG prog w A.in1 a n vals [] St Fin) (hv : ∀ i, vals i = .bl (f i)) : ∀ (k i : Nat) (s : Shared), n - i = k → i ≤ n → St i s → (∀ s', Fin s' → R (.ok (.ret (.bool (((List.range n).drop i).all f)))) s') → codeAny (model prog w) A (.builtin "all.loop" ⟨[.ref a], []⟩) R s := by
  intro k
  induction k with
  | zero =>
    intro i s hk hi st hR
    obtain rfl : i = n := by omega
    refine codeAny_builtin F.entry_all_loop (by
      rw [Around.under_plainId F.plain_all_loop _]
      show wpAny _ A.in1 (pyNext (.ref a) >>= _) _ _ s
      refine wpAny_bind (W.done s _ _ st fun s' hF _ => wpAny_bind (wpAny_rule (wpAny_pure ?_)))
      have q := hR s' hF
      rw [List.drop_of_length_le (by rw [List.length_range] <;> exact Nat.le_refl _)] at q
      exact q)
  | succ k ih =>
    intro i s hk hi st hR
    have hlt : i < n := by omega
    refine codeAny_builtin F.entry_all_loop (by
      rw [Around.under_plainId F.plain_all_loop _]
      show wpAny _ A.in1 (pyNext (.ref a) >>= _) _ _ s
      refine wpAny_bind (W.item i s _ _ hlt st fun v s' r st' _ => wpAny_bind (wpAny_holding ?_))
      rw [hv i] at r
      obtain rfl : v = .bool (f i) := r
      rw [drop_at hlt, List.all_cons] at hR
      refine wpAny_truthy_bool (wpAny_bind (wpAny_letGo ?_))
      cases hb : f i with
      | true =>
        rw [hb] at hR
        exact wpAny_pure ⟨plainId_quiet F.plain_all_loop _, ih (i + 1) s' (by omega) hlt st' hR⟩
      | false =>
        rw [hb] at hR
        exact wpAny_bind (wpAny_rule (wpAny_pure (hR s' (W.fin _ _ hlt st')))))
theorem any_turns {f : Nat → Bool} (W : WG prog w A.in1 a n vals [] St Fin) (hv : ∀ i, vals i = .bl (f i)) : ∀ (k i : Nat) (s : Shared), n - i = k → i ≤ n → St i s → (∀ s', Fin s' → R (.ok (.ret (.bool (((List.range n).drop i).any f)))) s') → codeAny (model prog w) A (.builtin "any.loop" ⟨[.ref a], []⟩) R s := by
  intro k
  induction k with
  | zero =>
    intro i s hk hi st hR
    obtain rfl : i = n := by omega
    refine codeAny_builtin F.entry_any_loop (by
      rw [Around.under_plainId F.plain_any_loop _]
      show wpAny _ A.in1 (pyNext (.ref a) >>= _) _ _ s
      refine wpAny_bind (W.done s _ _ st fun s' hF _ => wpAny_bind (wpAny_rule (wpAny_pure ?_)))
      have q := hR s' hF
      rw [List.drop_of_length_le (by rw [List.length_range] <;> exact Nat.le_refl _)] at q
      exact q)
  | succ k ih =>
    intro i s hk hi st hR
    have hlt : i < n := by omega
    refine codeAny_builtin F.entry_any_loop (by
      rw [Around.under_plainId F.plain_any_loop _]
      show wpAny _ A.in1 (pyNext (.ref a) >>= _) _ _ s
      refine wpAny_bind (W.item i s _ _ hlt st fun v s' r st' _ => wpAny_bind (wpAny_holding ?_))
      rw [hv i] at r
      obtain rfl : v = .bool (f i) := r
      rw [drop_at hlt, List.any_cons] at hR
      refine wpAny_truthy_bool (wpAny_bind (wpAny_letGo ?_))
      cases hb : f i with
      | false =>
        rw [hb] at hR
        exact wpAny_pure ⟨plainId_quiet F.plain_any_loop _, ih (i + 1) s' (by omega) hlt st' hR⟩
      | true =>
        rw [hb] at hR
        exact wpAny_bind (wpAny_rule (wpAny_pure (hR s' (W.fin _ _ hlt st')))))
theorem call_allG {f : Nat → Bool} {Q : Value → Shared → Prop} (W : WG prog w A.in1 a n vals [] St Fin) (hv : ∀ i, vals i = .bl (f i)) (st : St 0 s) (hQ : ∀ s', Fin s' → Q (.bool (allF n f)) s') : wpAny (model prog w) A (call (.builtin "all") [.ref a]) Q E s := by
  refine call_function_tree F.kind_all F.plain_all F.entry_all (F.args_all1 _) (by
    unfold Builtin.«all»
    refine wpAny_bind (m := oneArg "all" _) (wpAny_pure (wpAny_bind (W.self 0 s _ _ st ?_)))
    exact wpAny_pure ⟨plainId_quiet F.plain_all_loop _, all_turns W hv n 0 s rfl (Nat.zero_le _) st fun s' hF => by simpa [allF] using hQ s' hF⟩)
theorem call_anyG {f : Nat → Bool} {Q : Value → Shared → Prop} (W : WG prog w A.in1 a n vals [] St Fin) (hv : ∀ i, vals i = .bl (f i)) (st : St 0 s) (hQ : ∀ s', Fin s' → Q (.bool (anyF n f)) s') : wpAny (model prog w) A (call (.builtin "any") [.ref a]) Q E s := by
  refine call_function_tree F.kind_any F.plain_any F.entry_any (F.args_any1 _) (by
    unfold Builtin.«any»
    refine wpAny_bind (m := oneArg "any" _) (wpAny_pure (wpAny_bind (W.self 0 s _ _ st ?_)))
    exact wpAny_pure ⟨plainId_quiet F.plain_any_loop _, any_turns W hv n 0 s rfl (Nat.zero_le _) st fun s' hF => by simpa [anyF] using hQ s' hF⟩)
end
end LH
namespace LH
open PySem PySem.Spec PyProof.Rows L2 Evl LT LG
section
variable {X : Cx} {pins : List (Addr × Obj)} {σ : L2.St} {H : Hp} {s : Shared}
theorem inv_setGen {g : Nat} {x : GenState} (I : Inv X pins σ H s) (hx : x.bare = true) : Inv X pins σ H (s.setGen g x) :=
  ⟨I.ok, I.os, L2.allBare_setGen I.bare hx, I.base, I.loc, I.cell, I.free, I.freeC, I.pin, I.hok, I.len⟩
theorem pins_map {Sp : List Addr} {h : Heap} (hn : ∀ b ∈ Sp, ∃ o, h.get? b = some o ∧ ∀ v, o.data ≠ .cell v) : (pinsAt Sp h).map (·.1) = Sp := by
  induction Sp with
  | nil => rfl
  | cons b r ih =>
    obtain ⟨o, ho, _⟩ := hn b List.mem_cons_self
    have := ih fun c hc => hn c (List.mem_cons_of_mem _ hc)
    unfold pinsAt at this ⊢
    rw [List.filterMap_cons, ho]
    show b :: _ = _
    rw [this]
theorem inv_spec {Y : Cx} {p : Addr × Obj} {ps : List (Addr × Obj)} {Sp : List Addr} {τ : L2.St} {h' : Heap} {tk : Nat} (hpn : Y.pn = []) (hps : ps.map (·.1) = Sp) (hSp : ∀ b ∈ Sp, Y.s_0.heap.objs.size ≤ b ∧ b ≠ p.1) (I : Inv Y (p :: ps) τ H s)
    (k : ∀ b o, b ∉ Sp → s.heap.get? b = some o → h'.get? b = some o) (hn : ∀ b ∈ Sp, ∃ o, h'.get? b = some o ∧ ∀ v, o.data ≠ .cell v) : Inv Y (p :: pinsAt Sp h') τ H { s with heap := h', toks := tk } := by
  have pin : ∀ b ∈ Sp, H b = none ∧ b ≠ Y.env.locals ∧ b ∉ Y.fs ∧ ∃ o, s.heap.get? b = some o ∧ ∀ v, o.data ≠ .cell v := fun b hb => by
    rw [← hps] at hb
    obtain ⟨z, hz, rfl⟩ := List.mem_map.mp hb
    have y := I.pin z (List.mem_append_right _ (List.mem_cons_of_mem _ hz))
    exact ⟨y.2.1, y.2.2.1, y.2.2.2.1, z.2, y.1, y.2.2.2.2⟩
  have I1 : Inv Y [p] τ H s := I.pins_of fun q hq => I.pin q (List.mem_append_right _ (by rw [List.mem_singleton.mp hq]; exact List.mem_cons_self))
  have I2 := I1.turnedL (t' := tk) (ch := Sp) (h' := h') k fun b hb => ⟨(pin b hb).1, (pin b hb).2.1, (pin b hb).2.2.1, .inr (hSp b hb).1, fun x c e z => by
      obtain ⟨v, o', h1, h2⟩ := I.cell x c e
      obtain ⟨o, h3, h4⟩ := (pin b hb).2.2.2
      rw [z, h3] at h1
      cases h1
      exact h4 _ h2, fun q hq => by
      rw [hpn, List.nil_append] at hq
      rw [List.mem_singleton.mp hq]
      exact (hSp b hb).2.symm⟩
  refine I2.pins_of fun q hq => ?_
  rcases List.mem_cons.mp hq with rfl | hq
  · exact I2.pin _ (List.mem_append_right _ List.mem_cons_self)
  · obtain ⟨hb, e⟩ := of_pinsAt hq
    obtain ⟨o, h1, h2⟩ := hn _ hb
    rw [e] at h1
    cases h1
    exact ⟨e, (pin _ hb).1, (pin _ hb).2.1, (pin _ hb).2.2.1, h2⟩
section
variable {Y : Cx} {a : Addr} {oa : Obj} {τ : L2.St} {fp : List Addr} {tn : Nat → Heap → Prop} {W : Nat → Hp → Prop} {Sp : List Addr} {i n g : Nat} {J : It} {tg : Expr} {it : Addr}
theorem btw_upd {h' : Heap} {tk : Nat} (T : Turn Y.prog Y.w Y.K tg J fp it tn) (hpn : Y.pn = []) (hSp : ∀ b ∈ Sp, Y.s_0.heap.objs.size ≤ b ∧ b ≠ a) (B : Btw Y a oa τ fp tn W Sp i s) (k : ∀ b o, b ∉ Sp → s.heap.get? b = some o → h'.get? b = some o) (hn : ∀ b ∈ Sp, ∃ o, h'.get? b = some o ∧ ∀ v, o.data ≠ .cell v) :
    Btw Y a oa τ fp tn W Sp i { s with heap := h', toks := tk } := by
  obtain ⟨H', ps, hps, I, st, hf, w⟩ := B
  have nf : ∀ b ∈ fp, b ∉ Sp := fun b hb z => by
    rw [← hps] at z
    obtain ⟨q, hq, e⟩ := List.mem_map.mp z
    exact (hf b hb).2.2.2.2.2 q (List.mem_append_right _ (List.mem_cons_of_mem _ hq)) e
  refine ⟨H', _, pins_map hn, inv_spec hpn hps hSp I k hn, T.keep _ _ _ st fun b hb o e => k b o (nf b hb) e, fun b hb => ⟨(hf b hb).1, (hf b hb).2.1, (hf b hb).2.2.1, (hf b hb).2.2.2.1, (hf b hb).2.2.2.2.1, fun q hq e => ?_⟩, w⟩
  rw [hpn, List.nil_append] at hq
  rcases List.mem_cons.mp hq with rfl | hq
  · exact (hf b hb).2.2.2.2.2 (a, oa) (List.mem_append_right _ List.mem_cons_self) e
  · exact nf b hb (e ▸ (of_pinsAt hq).1)
theorem gone_upd {h' : Heap} {tk : Nat} (hpn : Y.pn = []) (hSp : ∀ b ∈ Sp, Y.s_0.heap.objs.size ≤ b ∧ b ≠ a) (B : Gone Y a oa τ W n Sp s) (k : ∀ b o, b ∉ Sp → s.heap.get? b = some o → h'.get? b = some o) (hn : ∀ b ∈ Sp, ∃ o, h'.get? b = some o ∧ ∀ v, o.data ≠ .cell v) :
    Gone Y a oa τ W n Sp { s with heap := h', toks := tk } := by
  obtain ⟨H', ps, i, hi, hps, I, w⟩ := B
  exact ⟨H', _, i, hi, pins_map hn, inv_spec hpn hps hSp I k hn, w⟩
theorem jok (hG : ∀ h : Heap, h.get? a = some oa → h.IsGen a g) : JOk a g (Btw Y a oa τ fp tn W Sp) (Gone Y a oa τ W n Sp) :=
  ⟨fun j s ⟨_, _, _, I, _⟩ => hG _ (I.pin (a, oa) (List.mem_append_right _ List.mem_cons_self)).1, fun j s ⟨_, _, _, I, _⟩ => I.nolimit, fun j s x hx ⟨H', ps, hps, I, r⟩ => ⟨H', ps, hps, inv_setGen I hx, r⟩,
    fun s h' ⟨H', ps, i, hi, hps, I, w⟩ k => by
      have J := (inv_setGen (g := g) (x := .finished) I rfl).kept (t' := s.toks) (h' := h') k
      refine ⟨H', ps, i, hi, hps, ?_, w⟩
      exact J.pins_of fun q hq => by
        have z := I.pin q (List.mem_append_right _ hq)
        exact ⟨k _ _ z.1, z.2⟩⟩
end
/-- the generator at a: for any consumer -/
def RdyX (X : Cx) (pins : List (Addr × Obj)) (σ : L2.St) (n : Nat) (vals : Nat → V) (QF : Hp → Prop) (a : Addr) (s5 : Shared) : Prop :=
  ∃ (St : List Addr → Nat → Shared → Prop) (Fin : List Addr → Shared → Prop), (∀ Sp, (∀ b ∈ Sp, s5.heap.objs.size ≤ b) → WG X.prog X.w X.A.in1 a n vals Sp (St Sp) (Fin Sp)) ∧
    (∀ Sp h' tk, (∀ b ∈ Sp, s5.heap.objs.size ≤ b) → (∀ b o, s5.heap.get? b = some o → h'.get? b = some o) → (∀ b ∈ Sp, ∃ o, h'.get? b = some o ∧ ∀ v, o.data ≠ .cell v) → St Sp 0 { s5 with heap := h', toks := tk }) ∧ ∀ Sp s', Fin Sp s' → ∃ H', Inv X pins σ H' s' ∧ QF H'
/-- (.. for t in e), handed to a consumer that makes r of what comes -/
def tGX (P : Addr) (ok : Nat → (Nat → V) → V → Prop) (wi : TI) (g : TG) (te : TE) (vs : List Nat) : TE := fun σ H Q => wi σ H fun J H1 => Tab H1 P ∧ ∃ (n : Nat) (vals : Nat → V) (r : V) (W : Nat → Hp → Prop), ok n vals r ∧ W 0 H1 ∧
  (∀ i H', i < n → W i H' → J.go i H' ∧ ∀ x H2, J.yld i H' x H2 → g x (wipe σ vs) H2 fun σ2 H3 => wipe σ2 vs = wipe σ vs ∧ te σ2 H3 fun y H4 => y = vals i ∧ W (i + 1) H4) ∧ (∀ H', W n H' → J.stop n H') ∧ ∀ i H', i ≤ n → W i H' → Q r H'
structure GenX (env : Env) (scope : Scope) : Prop where
  co : scope.isCoroutine = false
  cell : ∀ y ∈ scope.names, y.2 ≠ .cell
  dot : scope.names.lookup (".0" : Str) = some NameKind.local
theorem gen_makeX {c P : Addr} {elt tg iter : Expr} {scope : Scope} {own : List (Str × Nat)} {gpos : Pos} {wi : TI} {g : TG} {te : TE} {k : Nat} {Q : VK} {Q' : Value → Shared → Prop} {okc : Nat → (Nat → V) → V → Prop} (hr : Room (k + 1) X.A) (hN : X.N.Nodup) (TB : LamX.TabB X.base X.mg c P) (hcode : X.env.code = .ref c) (S : GenX X.env scope) (ok : BlkOk X.N X.env.scope scope own)
    (hi : PI X tg iter wi) (hs : ∀ v, genFold iter X.env v = pure v) (hg : ∀ (A' : Around) (s : Shared) (H : Hp) (C : Addr) (code : Value) (fp : List Addr), Room k A' → PG (gnb X A' s H (gnE X scope C code) fp) tg g) (he : ∀ (A' : Around) (s : Shared) (H : Hp) (C : Addr) (code : Value) (fp : List Addr), Room k A' → PE (gnb X A' s H (gnE X scope C code) fp) elt te)
    (I : Inv X pins σ H s) (h : tGX P okc wi g te (own.map (·.2)) σ H Q)
    (hQ : ∀ n vals r (W : Nat → Hp → Prop) a s5, okc n vals r → (∀ i H', i ≤ n → W i H' → Q r H') → RdyX X pins σ n vals (fun H' => ∃ i, i ≤ n ∧ W i H') a s5 → Q' (.ref a) s5) :
    wpAny (model X.prog X.w) X.A (eval (.GeneratorExp elt [⟨tg, iter, [], 0⟩] scope gpos) X.env) Q' X.xe s := by
  have hfree : ∀ y ∈ scope.names, y.2 = .free → ∃ c, X.env.cells.lookup y.1 = some c := fun y hy e => (ok.free y hy e).elim (fun k => I.ok.has _ (.inl k)) fun k => I.ok.has _ (.inr k)
  refine wpAny_GeneratorExp_make S.co (closure_ok hfree) S.cell S.dot ok.kind (by have := hr.dp; omega) (thn (hi.run pins s σ H _ I h) fun xv s1 h1 => thn h1 fun itv s2 h2 => ?_) hs
  obtain ⟨it, fp, tn, J, H2, rfl, I2, T, st2, f2, hT, n, vals, r, W, hok, w0, turn, stop, fin⟩ := h2
  refine ⟨I2.nolimit, ?_⟩
  obtain ⟨ps, hPs, ht⟩ := hT.of_ok I2.hok
  have cd : PySem.W.CodeHd s2.heap c P := TB.code.keeps fun b u e => I2.bk b u e
  have fpP : ∀ b ∈ fp, b ≠ P := fun b hb z => by
    have q := (f2 b hb).1
    rw [z, hT] at q
    cases q
  have go : ∀ (code : Value) (h3 : Heap) (tk : Nat) (ps' : Array Value), (∀ b o, b ≠ P → s2.heap.get? b = some o → h3.get? b = some o) → s2.heap.objs.size ≤ h3.objs.size → h3.get? P = some { cls := .none, data := .fields ps' } → TriplesOk ps'.toList →
      wpAny (model X.prog X.w) X.A (builtinsFor X.env.globals X.env.builtins) (fun bi s₄ => ∀ h', h'.Ns s₄.heap.objs.size (fun y => if y = ".0" then some (.ref it) else none) → Heap.SameBut s₄.heap.objs.size (s₄.heap.push { cls := .type "frame", data := .dict #[] }) h' →
          Q' (.ref h'.objs.size) { s₄ with
            gens := s₄.gens.push (.fresh (.compStart (.GeneratorExp elt [⟨tg, iter, [], 0⟩] scope gpos) 0 (.ref it) .none (genEnv scope (cloFrom X.env.cells scope.names []) s₄.heap.objs.size code bi X.env))),
            toks := s₄.toks + 1 + 1 + 1,
            heap := h'.push { cls := .type "generator", data := .fields #[.int s₄.gens.size 0, .str "<genexpr>" (s₄.toks + 1), .str (X.env.qual ++ "<genexpr>") (s₄.toks + 1 + 1)] } }) X.xe { s2 with heap := h3, toks := tk } := by
    intro code h3 tk ps' hx hsz hP3 ht3
    have I3 : Inv X pins σ H2 { s2 with heap := h3, toks := tk } := inv_grown I2 hT hx ⟨ps', hP3, ht3⟩ rfl I2.bare
    obtain ⟨bm, ob, e1, e2, e3, e4, e5, e6, e7, e8⟩ := TB.bm
    refine wpAny_builtinsFor (m := X.mg) (by rw [I3.ok.glob]; exact I3.mod.glob.keeps I3.bk) e1 e2 (hx _ _ e4 (I2.bk _ _ e5)) e6 e7 e8 ?_
    generalize hs3 : ({ s2 with heap := h3, toks := tk } : Shared) = s3 at I3 ⊢
    have hh3 : s3.heap = h3 := by rw [← hs3]
    intro h' hn' hs'
    have hsz' : h'.objs.size = s3.heap.objs.size + 1 := by rw [hs'.1, Heap.size_push]
    have keep' : ∀ b o, s3.heap.get? b = some o → h'.get? b = some o := fun b o e => hs'.extBut b o (Nat.ne_of_lt (Heap.lt_size e)) (Heap.get?_push_of_some _ e)
    generalize hoa : ({ cls := .type "generator", data := .fields #[.int s3.gens.size 0, .str "<genexpr>" (s3.toks + 1), .str (X.env.qual ++ "<genexpr>") (s3.toks + 1 + 1)] } : Obj) = oa
    have keep5 : ∀ b o, s3.heap.get? b = some o → (h'.push oa).get? b = some o := fun b o e => Heap.get?_push_of_some _ (keep' b o e)
    have hG : ∀ h : Heap, h.get? h'.objs.size = some oa → h.IsGen h'.objs.size s3.gens.size := fun h e => ⟨oa, _, _, e, by rw [← hoa], by rw [← hoa], by rw [← hoa]⟩
    have goa : (h'.push oa).get? h'.objs.size = some oa := Heap.get?_push_size _ (by rw [← hoa]; rfl)
    have noC : ∀ v, oa.data ≠ .cell v := fun v => by rw [← hoa]; intro z; cases z
    have nstk : ∀ b, s3.heap.objs.size ≤ b → b ∉ frs X.stack := fun b hb z => by
      rcases List.mem_cons.mp (I3.stkSub b z) with z | z
      · have := I3.lt
        rw [← z] at this
        exact Nat.lt_irrefl _ (Nat.lt_of_lt_of_le this hb)
      · exact I3.nofs hb z
    have f3 : ∀ b ∈ fp, FpOk X pins H2 b ∧ b < s3.heap.objs.size := fun b hb => by
      obtain ⟨o, e, _⟩ := T.obj _ _ st2 b hb
      exact ⟨f2 b hb, by rw [hh3]; exact Heap.lt_size (hx b o (fpP b hb) e)⟩
    have hA1 : (X.A.in4.in1.over (.compLoop (.GeneratorExp elt [⟨tg, iter, [], 0⟩] scope gpos) 0 (.ref it) .none (gnE X scope s3.heap.objs.size code)) []).handled = none := hr.hd
    have hfr1 : (X.A.in4.in1.over (.compLoop (.GeneratorExp elt [⟨tg, iter, [], 0⟩] scope gpos) 0 (.ref it) .none (gnE X scope s3.heap.objs.size code)) []).frames = some (gnE X scope s3.heap.objs.size code :: X.stack) := by
      show pushEnvs [_] (pushEnvs [] X.A.frames) = _
      rw [I3.ok.frames]
      rfl
    have hrm : Room k (X.A.in4.in1.over (.compLoop (.GeneratorExp elt [⟨tg, iter, [], 0⟩] scope gpos) 0 (.ref it) .none (gnE X scope s3.heap.objs.size code)) []) :=
      ⟨hr.hd, by have := hr.dp; show X.A.depth + 0 + 1 + 3 * k + 5 < _; omega, by have := hr.un; show X.A.units + 1 + 1 + 1 + 1 + 1 + 0 + 3 + 16 * k + 200 < _; omega⟩
    generalize hA' : X.A.in4.in1.over (.compLoop (.GeneratorExp elt [⟨tg, iter, [], 0⟩] scope gpos) 0 (.ref it) .none (gnE X scope s3.heap.objs.size code)) [] = A' at hA1 hfr1 hrm
    have pg := hg A' s3 H2 s3.heap.objs.size code fp hrm
    have pe := he A' s3 H2 s3.heap.objs.size code fp hrm
    have turns := fun (Sp : List Addr) => seg_turns (A₁ := X.A.in4.in1) (Y := gnb X A' s3 H2 (gnE X scope s3.heap.objs.size code) fp) (pos := gpos) (iter := iter) (scope := scope) (it := it) (a := h'.objs.size) (oa := oa) (Sp := Sp) (σ := σ) (vs := own.map (·.2)) hA'.symm rfl rfl rfl S.co T pg pe turn stop
    have begin_ : ∀ {h'' : Heap} {g' : Array GenState} {t' : Nat}, (∀ b o, (h'.push oa).get? b = some o → h''.get? b = some o) → AllBare g' → Inv (gnb X A' s3 H2 (gnE X scope s3.heap.objs.size code) fp) [] (wipe σ (own.map (·.2))) H2 { s3 with heap := h'', gens := g', toks := t' } := fun {h'' g' t'} k1 k2 =>
      gen_begin I3 ok S.cell hN f3 hA1 hfr1 (fun b o e => k1 b o (keep5 b o e)) (hn'.keeps fun b o e => k1 b o (Heap.get?_push_of_some _ e)) k2
    refine hQ n vals r W _ _ hok fin ⟨fun Sp => GSt X.prog X.w X.A.in4 s3.gens.size n vals Sp (Btw (gnb X A' s3 H2 (gnE X scope s3.heap.objs.size code) fp) h'.objs.size oa (wipe σ (own.map (·.2))) fp tn W Sp) (Gone (gnb X A' s3 H2 (gnE X scope s3.heap.objs.size code) fp) h'.objs.size oa (wipe σ (own.map (·.2))) W n Sp),
      fun Sp => Gone (gnb X A' s3 H2 (gnE X scope s3.heap.objs.size code) fp) h'.objs.size oa (wipe σ (own.map (·.2))) W n Sp, fun Sp hSp => ?_, fun Sp h'' tk' hSp hk hn => ?_, fun Sp s' hF => ?_⟩
    · have hSp' : ∀ b ∈ Sp, s3.heap.objs.size ≤ b ∧ b ≠ h'.objs.size := fun b hb => by
        have := hSp b hb
        rw [Heap.size_push] at this
        have h1 : s3.heap.objs.size ≤ h'.objs.size := by rw [hsz']; exact Nat.le_succ _
        exact ⟨Nat.le_trans h1 (Nat.le_of_succ_le this), fun e => by rw [e] at this; exact Nat.lt_irrefl _ this⟩
      have W4 : WG X.prog X.w X.A.in4 h'.objs.size n vals Sp (GSt X.prog X.w X.A.in4 s3.gens.size n vals Sp (Btw (gnb X A' s3 H2 (gnE X scope s3.heap.objs.size code) fp) h'.objs.size oa (wipe σ (own.map (·.2))) fp tn W Sp) (Gone (gnb X A' s3 H2 (gnE X scope s3.heap.objs.size code) fp) h'.objs.size oa (wipe σ (own.map (·.2))) W n Sp)) (Gone (gnb X A' s3 H2 (gnE X scope s3.heap.objs.size code) fp) h'.objs.size oa (wipe σ (own.map (·.2))) W n Sp) :=
        ⟨fun i s Q E hi st hQ => gst_item hr.hd (by have := hr.dp; show X.A.depth < _; omega) (jok hG) hi st hQ, fun s Q E st hQ => gst_done hr.hd (by have := hr.dp; show X.A.depth < _; omega) (jok hG) st hQ, fun i s Q E st hQ => wpAny_pyIter_gen ((jok (n := n) hG).gen _ _ st.1) hQ,
          fun i s hi st => let ⟨⟨H', ps, hps, I, _, _, w⟩, _⟩ := st; ⟨H', ps, i, hi, hps, I, w⟩, fun i s h'' tk' st k1 k2 => ⟨btw_upd T rfl hSp' st.1 k1 k2, st.2⟩, fun s h'' tk' st k1 k2 => gone_upd rfl hSp' st k1 k2⟩
      exact (W4.of_in1).of_in1.of_in1
    · have hlt : ∀ b ∈ Sp, s3.heap.objs.size ≤ b ∧ b ≠ h'.objs.size := fun b hb => by
        have := hSp b hb
        rw [Heap.size_push] at this
        have h1 : s3.heap.objs.size ≤ h'.objs.size := by rw [hsz']; exact Nat.le_succ _
        exact ⟨Nat.le_trans h1 (Nat.le_of_succ_le this), fun e => by rw [e] at this; exact Nat.lt_irrefl _ this⟩
      have ale : s3.heap.objs.size ≤ h'.objs.size := by rw [hsz']; exact Nat.le_succ _
      have I5 := begin_ (t' := tk') hk (I3.bare.push (g := .fresh (.compStart (.GeneratorExp elt [⟨tg, iter, [], 0⟩] scope gpos) 0 (.ref it) .none (gnE X scope s3.heap.objs.size code))) rfl)
      have J0 : Btw (gnb X A' s3 H2 (gnE X scope s3.heap.objs.size code) fp) h'.objs.size oa (wipe σ (own.map (·.2))) fp tn W Sp 0 { s3 with heap := h'', gens := s3.gens.push (.fresh (.compStart (.GeneratorExp elt [⟨tg, iter, [], 0⟩] scope gpos) 0 (.ref it) .none (gnE X scope s3.heap.objs.size code))), toks := tk' } := by
        refine ⟨H2, _, pins_map hn, I5.pins_of fun q hq => ?_, T.keep _ _ _ st2 fun b hb o e => hk _ _ (keep5 _ _ (by rw [hh3]; exact hx b o (fpP b hb) e)), fun b hb => ⟨(f2 b hb).1, Nat.ne_of_lt (f3 b hb).2, fun z => ?_, .inl hb, fun y c' e => (f2 b hb).2.2.2.2.1 y c' (clo_back hfree e).2, fun q hq e => ?_⟩, w0⟩
        · rcases List.mem_cons.mp hq with rfl | hq
          · exact ⟨hk _ _ goa, I3.hok.fresh ale, fun z => by
              have : h'.objs.size = s3.heap.objs.size := z
              rw [hsz'] at this
              exact Nat.succ_ne_self _ this, nstk _ ale, noC⟩
          · obtain ⟨hb, e⟩ := of_pinsAt hq
            obtain ⟨o, h1, h2⟩ := hn _ hb
            rw [e] at h1
            cases h1
            refine ⟨e, I3.hok.fresh (hlt _ hb).1, fun z => ?_, nstk _ (hlt _ hb).1, h2⟩
            have z : q.1 = s3.heap.objs.size := z
            have := hSp _ hb
            rw [Heap.size_push, hsz', z] at this
            exact Nat.lt_irrefl _ (Nat.lt_of_succ_lt this)
        · rcases List.mem_cons.mp (I3.stkSub b z) with z | z
          · exact (f2 b hb).2.1 z
          · exact (f2 b hb).2.2.1 z
        · have lt := (f3 b hb).2
          rcases List.mem_cons.mp (show q ∈ _ :: pinsAt Sp h'' from hq) with rfl | hq
          · have e : h'.objs.size = b := e
            rw [← e] at lt
            exact Nat.lt_irrefl _ (Nat.lt_of_lt_of_le lt ale)
          · have := (hlt _ (of_pinsAt hq).1).1
            rw [e] at this
            exact Nat.lt_irrefl _ (Nat.lt_of_lt_of_le lt this)
      refine ⟨J0, _, Array.getElem?_push_size .., fun s'' hJ => ⟨rfl, ?_⟩⟩
      have loop := turns Sp n 0 s'' s'' (Nat.sub_zero _) (Nat.zero_le _) (fun b hb => by
        obtain ⟨H3, qs, hqs, I6, _⟩ := hJ
        rw [← hqs] at hb
        obtain ⟨z, hz, rfl⟩ := List.mem_map.mp hb
        have y := (I6.pin z (List.mem_append_right _ (List.mem_cons_of_mem _ hz))).1
        exact ⟨z.2, y, y⟩) hJ
      show Seg _ _ _ _ _ s'' _ ((compStart (.GeneratorExp elt [⟨tg, iter, [], 0⟩] scope gpos) 0 (.ref it) .none (gnE X scope s3.heap.objs.size code)).onRaise (leaving (gnE X scope s3.heap.objs.size code))) [] s''
      unfold compStart; rw [Sem.onRaise_eq_wrap]
      refine seg_bind_wrap (m := ask) (wpAny_askSetting ?_)
      obtain ⟨_, _, _, I6, st6, _⟩ := id hJ
      split
      · exact seg_again rfl loop
      · exact seg_bind_wrap (wpAny_rule (seg_bind_wrap (wpAny_standAt (seg_bind_wrap (T.self _ 0 s'' _ _ st6 (seg_again rfl loop))))))
    · obtain ⟨H', qs, i, hi, hqs, I6, w⟩ := hF
      exact ⟨H', I3.call' (ch := fp) I6.os I6.base I6.hok I6.bare fun b hb => ⟨(f2 b hb).2.2.2.1, (f2 b hb).2.1, (f2 b hb).2.2.2.2.1, (f2 b hb).2.2.2.2.2⟩, i, hi, w⟩
  cases hf : codeAmong gpos ps.toList with
  | some cv => exact wpAny_genexprCode_hit hcode (cd.code hPs ht) hf (go cv s2.heap s2.toks ps (fun _ _ _ e => e) (Nat.le_refl _) hPs ht)
  | none =>
    refine wpAny_genexprCodeX hcode (cd.code hPs ht) (cd.tab hPs) hf fun c' h3 tk hx hge hlt hco' _ htab' _ => ?_
    obtain ⟨_, _, _, _, _, _, _, _, _, _, _, _, _, _, _, _, _, _, _, htr, _⟩ := hco'
    exact go _ h3 tk _ hx (Nat.le_trans hge (Nat.le_of_lt hlt)) htab'.2 htr
end
end LH

set_option Elab.async false
set_option linter.all false
set_option maxRecDepth 100000
set_option maxHeartbeats 4000000
namespace LH
open PySem PySem.Spec PyProof.Rows L2 Evl LT LG
section
variable {prog : Program} {w : World} {A : Around} {E : Value → Shared → Prop} {R : Result → Shared → Prop} {s : Shared} {a S : Addr} {n : Nat} {vals : Nat → V} {St : Nat → Shared → Prop} {Fin : Shared → Prop} {val : Nat → Int}
abbrev accO (us : Array Value) (c : Nat) : Obj := { cls := .type "list", dict := none, data := .seq us c, slots := #[] }
theorem same_at {s s' : Shared} {o : Obj} (h : Same [S] s s') (e : s.heap.get? S = some o) : s'.heap.get? S = some o := by
  obtain ⟨o', h1, h2⟩ := h S (List.mem_singleton.mpr rfl)
  rw [e] at h1
  cases h1
  exact h2
theorem upd_keeps {h : Heap} {f : Obj → Obj} : ∀ b o, b ∉ [S] → h.get? b = some o → (h.update S f).get? b = some o := fun b o hb e =>
  (Heap.get?_update_other _ _ fun z : S = b => hb (List.mem_singleton.mpr z.symm)).trans e
theorem sum_turns (W : WG prog w A.in1 a n vals [S] St Fin) (hv : ∀ i, vals i = .int (val i)) (hfit : ∀ j, j < n → InLong (val j) ∧ InLong (preSum val (j + 1))) : ∀ (k i : Nat) (s : Shared) (tA : Tok) (c : Nat), n - i = k → i ≤ n → St i s → s.heap.get? S = some (accO #[.int (preSum val i) tA] c) →
    (∀ s' t', Fin s' → R (.ok (.ret (.int (preSum val n) t'))) s') → codeAny (model prog w) A (.builtin "sum.loop" ⟨[.ref a, .ref S, rawInt 0, rawInt 0], []⟩) R s := by
  intro k
  induction k with
  | zero =>
    intro i s tA c hk hi st hS hR
    obtain rfl : i = n := by omega
    refine codeAny_builtin F.entry_sum_loop (by
      rw [Around.under_plainId F.plain_sum_loop _]
      show wpAny _ A.in1 (seqItems? (.ref S) >>= _) _ _ s
      refine wpAny_bind (wpAny_seqItems hS rfl (show wpAny _ A.in1 (tryCatch (pyNext (.ref a)) _ >>= _) _ _ s from ?_))
      exact wpAny_bind (wpAny_tryCatch (W.done s _ _ st fun s' hF _ => wpAny_pure (hR s' tA hF))))
  | succ k ih =>
    intro i s tA c hk hi st hS hR
    have hlt : i < n := by omega
    refine codeAny_builtin F.entry_sum_loop (by
      rw [Around.under_plainId F.plain_sum_loop _]
      show wpAny _ A.in1 (seqItems? (.ref S) >>= _) _ _ s
      refine wpAny_bind (wpAny_seqItems hS rfl (show wpAny _ A.in1 (tryCatch (pyNext (.ref a)) _ >>= _) _ _ s from ?_))
      refine wpAny_bind (wpAny_tryCatch (W.item i s _ _ hlt st fun v s' r st' sm => ?_))
      rw [hv i] at r
      obtain ⟨t, rfl⟩ := r
      have hS' := same_at sm hS
      obtain ⟨⟨f1, f2⟩, f3, f4⟩ := hfit i hlt
      have hc : ((decide (-(2 ^ 63) ≤ val i) && decide (val i < 2 ^ 63)) && (decide (-(2 ^ 63) ≤ preSum val i + val i) && decide (preSum val i + val i < 2 ^ 63))) = true := by
        simp only [preSum] at f3 f4
        simp only [Bool.and_eq_true, decide_eq_true_eq]
        exact ⟨⟨f1, f2⟩, f3, f4⟩
      show wpAny _ A.in1 (if (_ : Bool) = true then (mkInt (preSum val i + val i) >>= _) else _) _ _ _
      split
      · refine wpAny_bind (wpAny_mkInt (show wpAny _ A.in1 (updateSeq S (fun _ => #[.int (preSum val i + val i) s'.toks]) >>= _) _ _ _ from wpAny_bind ?_))
        refine wpAny_updateSeq hS' rfl (wpAny_pure ⟨plainId_quiet F.plain_sum_loop _, ih (i + 1) _ s'.toks _ (by omega) hlt (W.upd _ s' _ _ st' upd_keeps fun b hb => ?_) (Heap.get?_update_self _ hS' rfl) hR⟩)
        rw [List.mem_singleton.mp hb]
        exact ⟨_, Heap.get?_update_self _ hS' rfl, fun v z => nomatch z⟩
      · rename_i hneg
        exact absurd hc hneg)
/-- the greatest so far -/
def topI (val : Nat → Int) : Nat → Int
  | 0 => val 0
  | k + 1 => if val (k + 1) > topI val k then val (k + 1) else topI val k
theorem max_turns (W : WG prog w A.in1 a n vals [S] St Fin) (hv : ∀ i, vals i = .int (val i)) : ∀ (k j : Nat) (s : Shared) (t : Tok) (c : Nat), n - (j + 1) = k → j + 1 ≤ n → St (j + 1) s → s.heap.get? S = some (accO #[.int (topI val j) t, .int (topI val j) t] c) →
    (∀ s' t', Fin s' → R (.ok (.ret (.int (topI val (n - 1)) t'))) s') → codeAny (model prog w) A (.builtin "max.loop" ⟨[.ref a, .none, .ref S], []⟩) R s := by
  have hname : (toString "max" ++ toString ".loop" : String) = "max.loop" := by decide
  intro k
  induction k with
  | zero =>
    intro j s t c hk hj st hS hR
    have hin : j + 1 = n := by omega
    refine codeAny_builtin F.entry_max_loop (by
      rw [Around.under_plainId F.plain_max_loop _]
      show wpAny _ A.in1 (seqItems? (.ref S) >>= _) _ _ s
      refine wpAny_bind (wpAny_seqItems hS rfl (show wpAny _ A.in1 (tryCatch (pyNext (.ref a)) _ >>= _) _ _ s from ?_))
      refine wpAny_bind (wpAny_tryCatch (W.done s _ _ (hin ▸ st) fun s' hF sm => ?_))
      have hS' := same_at sm hS
      show wpAny _ A.in1 (updateSeq S (fun _ => #[]) >>= _) _ _ _
      refine wpAny_bind (wpAny_updateSeq hS' rfl (wpAny_bind (wpAny_letGo (wpAny_pure ?_))))
      have q := hR { s' with heap := s'.heap.update S (Obj.mapSeq fun _ => #[]) } t (W.finU s' _ s'.toks hF upd_keeps fun b hb => by
        rw [List.mem_singleton.mp hb]
        exact ⟨_, Heap.get?_update_self _ hS' rfl, fun v z => nomatch z⟩)
      rw [← hin] at q
      exact q)
  | succ k ih =>
    intro j s t c hk hj st hS hR
    have hlt : j + 1 < n := by omega
    refine codeAny_builtin F.entry_max_loop (by
      rw [Around.under_plainId F.plain_max_loop _]
      show wpAny _ A.in1 (seqItems? (.ref S) >>= _) _ _ s
      refine wpAny_bind (wpAny_seqItems hS rfl (show wpAny _ A.in1 (tryCatch (pyNext (.ref a)) _ >>= _) _ _ s from ?_))
      refine wpAny_bind (wpAny_tryCatch (W.item (j + 1) s _ _ hlt st fun v s' r st' sm => ?_))
      rw [hv (j + 1)] at r
      obtain ⟨t1, rfl⟩ := r
      have hS' := same_at sm hS
      show wpAny _ A.in1 (tryCatch (holding [Value.int (val (j + 1)) t1, Value.int (val (j + 1)) t1] (richCompare .Gt (Value.int (val (j + 1)) t1) (Value.int (topI val j) t) >>= _)) _ >>= _) _ _ _
      refine wpAny_bind (wpAny_tryCatch (wpAny_holding (wpAny_bind (gt_int (wpAny_bind (wpAny_holding (wpAny_truthy_bool (wpAny_bind (wpAny_letGo (wpAny_pure ?_))))))))))
      by_cases hb : val (j + 1) > topI val j
      · rw [decide_eq_true hb]
        simp only [if_true]
        refine wpAny_bind (wpAny_updateSeq hS' rfl (wpAny_bind (wpAny_letGo ?_)))
        rw [hname]
        refine wpAny_pure ⟨plainId_quiet F.plain_max_loop _, ih (j + 1) _ t1 _ (by omega) hlt (W.upd _ s' _ s'.toks st' upd_keeps fun b hb => ?_) (by
          have e : topI val (j + 1) = val (j + 1) := if_pos hb
          rw [e]
          exact Heap.get?_update_self _ hS' rfl) hR⟩
        rw [List.mem_singleton.mp hb]
        exact ⟨_, Heap.get?_update_self _ hS' rfl, fun v z => nomatch z⟩
      · rw [decide_eq_false hb]
        simp only [Bool.false_eq_true, if_false]
        refine wpAny_bind (wpAny_letGo ?_)
        rw [hname]
        refine wpAny_pure ⟨plainId_quiet F.plain_max_loop _, ih (j + 1) _ t c (by omega) hlt st' (by
          have e : topI val (j + 1) = topI val j := if_neg hb
          rw [e]
          exact hS') hR⟩)
end
end LH
namespace LH
open PySem PySem.Spec PyProof.Rows L2 Evl LT LG
section
variable {prog : Program} {w : World} {A : Around} {E : Value → Shared → Prop} {s : Shared} {a : Addr} {n : Nat} {vals : Nat → V} {val : Nat → Int} {Q : Value → Shared → Prop}
theorem call_sumG (hW : ∀ S, s.heap.objs.size ≤ S → ∃ (St : Nat → Shared → Prop) (Fin : Shared → Prop), WG prog w A.in1 a n vals [S] St Fin ∧ (∀ h' tk, (∀ b o, s.heap.get? b = some o → h'.get? b = some o) → (∃ o, h'.get? S = some o ∧ ∀ v, o.data ≠ .cell v) → St 0 { s with heap := h', toks := tk }) ∧ ∀ s' t', Fin s' → Q (.int (preSum val n) t') s')
    (hself : wpAny (model prog w) A.in1 (pyIter (.ref a)) (fun u s' => u = .ref a ∧ s' = s) E s) (hv : ∀ i, vals i = .int (val i)) (hfit : ∀ j, j < n → InLong (val j) ∧ InLong (preSum val (j + 1))) : wpAny (model prog w) A (call (.builtin "sum") [.ref a]) Q E s := by
  refine call_function_tree F.kind_sum F.plain_sum F.entry_sum (F.args_sum1 _) (by
    unfold Builtin.«sum»
    simp only [List.length_cons, List.length_nil]; rw [if_neg (by decide)]
    refine wpAny_bind (wpAny_of_eq (show Builtin.Builtins.bindParams "sum" ["start"] 0 { } = pure [none] from rfl) (wpAny_bind (wpAny_mono hself (fun u s' h => ?_) fun _ _ e => e)))
    obtain ⟨rfl, rfl⟩ := h
    refine wpAny_bind (wpAny_mkInt (wpAny_bind (wpAny_pure ?_)))
    simp only [List.forIn_cons, List.forIn_nil]
    refine wpAny_bind (wpAny_bind (wpAny_bind (wpAny_isInstance (T := "int") (b := false) (typeIs_int _ _ _) PySem.sub_int_str (by
      simp only [Bool.false_eq_true, if_false]
      refine wpAny_pure (wpAny_bind (wpAny_bind (wpAny_isInstance (T := "int") (b := false) (typeIs_int _ _ _) PySem.sub_int_bytes (by
        simp only [Bool.false_eq_true, if_false]
        refine wpAny_pure (wpAny_bind (wpAny_bind (wpAny_isInstance (T := "int") (b := false) (typeIs_int _ _ _) PySem.sub_int_bytearray (by
          simp only [Bool.false_eq_true, if_false]
          refine wpAny_pure (wpAny_pure (wpAny_bind (wpAny_newObj_type ?_)))
          obtain ⟨St, Fin, W, h0, hQ⟩ := hW s'.heap.objs.size (Nat.le_refl _)
          exact wpAny_pure ⟨plainId_quiet F.plain_sum_loop _, sum_turns W hv hfit n 0 _ s'.toks 0 rfl (Nat.zero_le _) (h0 _ _ (fun b o e => Heap.get?_push_of_some _ e) ⟨_, Heap.get?_push_size _ rfl, fun v z => nomatch z⟩) (Heap.get?_push_size _ rfl) hQ⟩)))))))))))))
theorem call_maxG (hW : ∀ S, s.heap.objs.size ≤ S → ∃ (St : Nat → Shared → Prop) (Fin : Shared → Prop), WG prog w A.in1 a n vals [S] St Fin ∧ (∀ h' tk, (∀ b o, s.heap.get? b = some o → h'.get? b = some o) → (∃ o, h'.get? S = some o ∧ ∀ v, o.data ≠ .cell v) → St 0 { s with heap := h', toks := tk }) ∧ ∀ s' t', Fin s' → Q (.int (topI val (n - 1)) t') s')
    (hself : wpAny (model prog w) A.in1 (pyIter (.ref a)) (fun u s' => u = .ref a ∧ s' = s) E s) (hv : ∀ i, vals i = .int (val i)) (hn : 0 < n) : wpAny (model prog w) A (call (.builtin "max") [.ref a]) Q E s := by
  have hname : (toString "max" ++ toString ".loop" : String) = "max.loop" := by decide
  refine call_function_tree F.kind_max F.plain_max F.entry_max (F.args_max1 _) (by
    show wpAny _ A.in1 (Builtin.Builtins.bindParams "max" ["key", "default"] 0 ⟨[], []⟩ >>= _) _ _ s
    refine wpAny_bind (wpAny_of_eq (show Builtin.Builtins.bindParams "max" ["key", "default"] 0 ⟨[], []⟩ = pure [none, none] from rfl) (wpAny_bind (wpAny_pure (wpAny_bind (wpAny_mono hself (fun u s' h => ?_) fun _ _ e => e)))))
    obtain ⟨rfl, rfl⟩ := h
    refine wpAny_bind (wpAny_newObj_type ?_)
    obtain ⟨St, Fin, W, h0, hQ⟩ := hW s'.heap.objs.size (Nat.le_refl _)
    rw [hname]
    generalize hS : s'.heap.objs.size = S at W h0 ⊢
    have hS0 : (s'.heap.push { cls := .type "list", dict := none, data := .seq #[] 0 }).get? S = some (accO #[] 0) := by rw [← hS]; exact Heap.get?_push_size _ rfl
    have st0 := h0 (s'.heap.push { cls := .type "list", dict := none, data := .seq #[] 0 }) s'.toks (fun b o e => Heap.get?_push_of_some _ e) ⟨_, hS0, fun v z => nomatch z⟩
    refine wpAny_pure ⟨plainId_quiet F.plain_max_loop _, codeAny_builtin F.entry_max_loop (by
      rw [Around.under_plainId F.plain_max_loop _]
      show wpAny _ A.in1 (seqItems? (.ref S) >>= _) _ _ _
      refine wpAny_bind (wpAny_seqItems hS0 rfl (show wpAny _ A.in1 (tryCatch (pyNext (.ref a)) _ >>= _) _ _ _ from ?_))
      refine wpAny_bind (wpAny_tryCatch (W.item 0 _ _ _ hn st0 fun v s2 r st' sm => ?_))
      rw [hv 0] at r
      obtain ⟨t1, rfl⟩ := r
      have hS' := same_at sm hS0
      show wpAny _ A.in1 (updateSeq S (fun _ => #[Value.int (val 0) t1, Value.int (val 0) t1]) >>= _) _ _ _
      refine wpAny_bind (wpAny_updateSeq hS' rfl ?_)
      rw [hname]
      refine wpAny_pure ⟨plainId_quiet F.plain_max_loop _, max_turns W hv _ 0 _ t1 _ rfl hn (W.upd _ s2 _ s2.toks st' upd_keeps fun b hb => ?_) (Heap.get?_update_self _ hS' rfl) hQ⟩
      rw [List.mem_singleton.mp hb]
      exact ⟨_, Heap.get?_update_self _ hS' rfl, fun v z => nomatch z⟩)⟩)
end
/-! ### the rules -/
def okAll (n : Nat) (vals : Nat → V) (r : V) : Prop := ∃ f : Nat → Bool, vals = (fun i => .bl (f i)) ∧ r = .bl (allF n f)
def okAny (n : Nat) (vals : Nat → V) (r : V) : Prop := ∃ f : Nat → Bool, vals = (fun i => .bl (f i)) ∧ r = .bl (anyF n f)
def okSum (n : Nat) (vals : Nat → V) (r : V) : Prop := ∃ f : Nat → Int, vals = (fun i => .int (f i)) ∧ r = .int (preSum f n) ∧ ∀ j, j < n → InLong (f j) ∧ InLong (preSum f (j + 1))
def okMax (n : Nat) (vals : Nat → V) (r : V) : Prop := ∃ f : Nat → Int, vals = (fun i => .int (f i)) ∧ r = .int (topI f (n - 1)) ∧ 0 < n
section
variable {X : Cx} {c P : Addr} {elt tg iter : Expr} {scope : Scope} {own : List (Str × Nat)} {p pos gpos : Pos} {wi : TI} {g : TG} {te : TE} {k : Nat}
theorem pe_gen {bn : Str} {b : String} {okc : Nat → (Nat → V) → V → Prop} (hbb : bootBuiltins bn = some (.builtin b)) (hcall : ∀ (pins : List (Addr × Obj)) (σ : L2.St) (n : Nat) (vals : Nat → V) (r : V) (QF : Hp → Prop) (a : Addr) (s5 : Shared), okc n vals r → RdyX X pins σ n vals QF a s5 → wpAny (model X.prog X.w) X.A (call (.builtin b) [.ref a]) (fun u s' => RelV r u ∧ ∃ H', Inv X pins σ H' s' ∧ QF H') X.xe s5)
    (hr : Room (k + 1) X.A) (hN : X.N.Nodup) (hgl : Gl X bn) (hm : X.mg bn = none) (TB : LamX.TabB X.base X.mg c P) (hcode : X.env.code = .ref c) (S : GenX X.env scope) (ok : BlkOk X.N X.env.scope scope own)
    (hi : PI X tg iter wi) (hs : ∀ v, genFold iter X.env v = pure v) (hg : ∀ (A' : Around) (s : Shared) (H : Hp) (C : Addr) (code : Value) (fp : List Addr), Room k A' → PG (gnb X A' s H (gnE X scope C code) fp) tg g) (he : ∀ (A' : Around) (s : Shared) (H : Hp) (C : Addr) (code : Value) (fp : List Addr), Room k A' → PE (gnb X A' s H (gnE X scope C code) fp) elt te)
    (hst : starEach [.GeneratorExp elt [⟨tg, iter, [], 0⟩] scope gpos] X.env = (false, eval (.GeneratorExp elt [⟨tg, iter, [], 0⟩] scope gpos) X.env) :: starEach [] X.env := by rfl) (hnm : bn ≠ "__name__" := by decide) (hdb : (bn == ("__debug__" : Str)) = false := by decide) :
    PE X (.Call (.Name bn p) [.GeneratorExp elt [⟨tg, iter, [], 0⟩] scope gpos] [] pos) (tGX P okc wi g te (own.map (·.2))) := by
  refine ⟨fun pins s σ H Q I h => wpAny_Call_Name_kw (ld_blt I hgl hm hbb (PyProof.Rows.callWith_builtin1 ?_ hst (by rfl)) hnm hdb)⟩
  rw [hst]
  show wpAny _ _ (spliced ((false, eval (.GeneratorExp elt [⟨tg, iter, [], 0⟩] scope gpos) X.env) :: backTo pos (starEach [] X.env))) _ _ s
  refine Calls.spliced_cons (gen_makeX hr hN TB hcode S ok hi hs hg he I h fun n vals r W a s5 hok fin rdy => Calls.spliced_nil (wpAny_mono (hcall pins σ n vals r _ a s5 hok rdy) (fun u s' ⟨r1, H', I', i, hi, w⟩ => ⟨r, H', I', r1, fin i H' hi w⟩) fun _ _ e => e))
theorem rdy0 {pins : List (Addr × Obj)} {σ : L2.St} {n : Nat} {vals : Nat → V} {QF : Hp → Prop} {a : Addr} {s5 : Shared} (R : RdyX X pins σ n vals QF a s5) : ∃ St Fin, WG X.prog X.w X.A.in1 a n vals [] St Fin ∧ St 0 s5 ∧ ∀ s', Fin s' → ∃ H', Inv X pins σ H' s' ∧ QF H' := by
  obtain ⟨St, Fin, h1, h2, h3⟩ := R
  exact ⟨St [], Fin [], h1 [] (fun b hb => nomatch hb), h2 [] s5.heap s5.toks (fun b hb => nomatch hb) (fun _ _ e => e) (fun b hb => nomatch hb), h3 []⟩
theorem call_all_rdy {pins : List (Addr × Obj)} {σ : L2.St} {n : Nat} {vals : Nat → V} {r : V} {QF : Hp → Prop} {a : Addr} {s5 : Shared} (ok : okAll n vals r) (R : RdyX X pins σ n vals QF a s5) : wpAny (model X.prog X.w) X.A (call (.builtin "all") [.ref a]) (fun u s' => RelV r u ∧ ∃ H', Inv X pins σ H' s' ∧ QF H') X.xe s5 := by
  obtain ⟨f, rfl, rfl⟩ := ok
  obtain ⟨St, Fin, W, st, hF⟩ := rdy0 R
  exact call_allG W (fun _ => rfl) st fun s' h => ⟨rfl, hF s' h⟩
theorem call_any_rdy {pins : List (Addr × Obj)} {σ : L2.St} {n : Nat} {vals : Nat → V} {r : V} {QF : Hp → Prop} {a : Addr} {s5 : Shared} (ok : okAny n vals r) (R : RdyX X pins σ n vals QF a s5) : wpAny (model X.prog X.w) X.A (call (.builtin "any") [.ref a]) (fun u s' => RelV r u ∧ ∃ H', Inv X pins σ H' s' ∧ QF H') X.xe s5 := by
  obtain ⟨f, rfl, rfl⟩ := ok
  obtain ⟨St, Fin, W, st, hF⟩ := rdy0 R
  exact call_anyG W (fun _ => rfl) st fun s' h => ⟨rfl, hF s' h⟩
theorem rdy1 {pins : List (Addr × Obj)} {σ : L2.St} {n : Nat} {vals : Nat → V} {QF : Hp → Prop} {a : Addr} {s5 : Shared} (R : RdyX X pins σ n vals QF a s5) (S : Addr) (hS : s5.heap.objs.size ≤ S) : ∃ (St : Nat → Shared → Prop) (Fin : Shared → Prop), WG X.prog X.w X.A.in1 a n vals [S] St Fin ∧ (∀ h' tk, (∀ b o, s5.heap.get? b = some o → h'.get? b = some o) → (∃ o, h'.get? S = some o ∧ ∀ v, o.data ≠ .cell v) → St 0 { s5 with heap := h', toks := tk }) ∧
    ∀ s', Fin s' → ∃ H', Inv X pins σ H' s' ∧ QF H' := by
  obtain ⟨St, Fin, h1, h2, h3⟩ := R
  have hSp : ∀ b ∈ [S], s5.heap.objs.size ≤ b := fun b hb => by rw [List.mem_singleton.mp hb]; exact hS
  exact ⟨St [S], Fin [S], h1 [S] hSp, fun h' tk k e => h2 [S] h' tk hSp k fun b hb => by rw [List.mem_singleton.mp hb]; exact e, h3 [S]⟩
theorem self_rdy {E : Value → Shared → Prop} {pins : List (Addr × Obj)} {σ : L2.St} {n : Nat} {vals : Nat → V} {QF : Hp → Prop} {a : Addr} {s5 : Shared} (R : RdyX X pins σ n vals QF a s5) : wpAny (model X.prog X.w) X.A.in1 (pyIter (.ref a)) (fun u s' => u = .ref a ∧ s' = s5) E s5 := by
  obtain ⟨St, Fin, W, st, hF⟩ := rdy0 R
  exact W.self 0 _ _ _ st ⟨rfl, rfl⟩
theorem call_sum_rdy {pins : List (Addr × Obj)} {σ : L2.St} {n : Nat} {vals : Nat → V} {r : V} {QF : Hp → Prop} {a : Addr} {s5 : Shared} (ok : okSum n vals r) (R : RdyX X pins σ n vals QF a s5) : wpAny (model X.prog X.w) X.A (call (.builtin "sum") [.ref a]) (fun u s' => RelV r u ∧ ∃ H', Inv X pins σ H' s' ∧ QF H') X.xe s5 := by
  obtain ⟨f, rfl, rfl, hfit⟩ := ok
  exact call_sumG (fun S hS => let ⟨S1, F1, W, h0, hF⟩ := rdy1 R S hS; ⟨S1, F1, W, h0, fun s' t' h => ⟨⟨t', rfl⟩, hF s' h⟩⟩) (self_rdy R) (fun _ => rfl) hfit
theorem call_max_rdy {pins : List (Addr × Obj)} {σ : L2.St} {n : Nat} {vals : Nat → V} {r : V} {QF : Hp → Prop} {a : Addr} {s5 : Shared} (ok : okMax n vals r) (R : RdyX X pins σ n vals QF a s5) : wpAny (model X.prog X.w) X.A (call (.builtin "max") [.ref a]) (fun u s' => RelV r u ∧ ∃ H', Inv X pins σ H' s' ∧ QF H') X.xe s5 := by
  obtain ⟨f, rfl, rfl, hn⟩ := ok
  exact call_maxG (fun S hS => let ⟨S1, F1, W, h0, hF⟩ := rdy1 R S hS; ⟨S1, F1, W, h0, fun s' t' h => ⟨⟨t', rfl⟩, hF s' h⟩⟩) (self_rdy R) (fun _ => rfl) hn
end
end LH

set_option Elab.async false
set_option linter.all false
set_option maxRecDepth 100000
set_option maxHeartbeats 4000000
namespace LO
open PySem PySem.Spec PyProof.Rows L2 L2H Evl LT LG LS LX
/-! ### own objects: fields, methods, items changed -/
theorem get_list {X : Cx} : PGet X (rIxL X.K) := by
  intro pins s σ H x y v u Q I rx ry h
  obtain ⟨p, xs, i, z, rfl, rfl, hq, he, q⟩ := h
  cases rx
  obtain ⟨t, rfl⟩ := ry
  obtain ⟨its, r, pl, hz⟩ := I.list hq
  obtain ⟨j, h1, h2, h3, h4, h5⟩ := atI_get he
  obtain ⟨w, ew, rw'⟩ := r.get h2
  have hl := r.length
  have hn := line63
  have fin : EP X pins σ Q w s := ⟨z, H, I, rw', q⟩
  by_cases h0 : 0 ≤ i
  · have hj : i.toNat = j := by
      rw [seqIndex_of h0 h5] at h1
      exact Option.some.inj h1
    exact wpAny_getItem_list (Q := fun r s' => EP X pins σ Q r s') pl.isList h0 (by omega) (by rw [hj]; simpa using ew) fin
  · have hj : (i + (its.toArray.size : Int)).toNat = j := by
      rw [seqIndex_neg (by omega) h4] at h1
      rw [List.size_toArray, ← hl]
      exact Option.some.inj h1
    exact wpAny_getItem_list_neg (Q := fun r s' => EP X pins σ Q r s') pl.isList (by omega) (by rw [List.size_toArray] <;> omega) (by omega) (by rw [hj]; simpa using ew) fin
/-- o.m(e, ..), what is raised wished for at the slots -/
def tMethA (C : Addr) (m : Str) (sp : Sp) (E : L2.St → XK) (ta : TE) (t : TA) : TE := fun σ H Q => ta σ H fun x H1 => ∃ a dx fs, x = .ref a ∧ H1 a = some (.ins C dx fs) ∧ fs.lookup m = none ∧ t σ H1 fun vs H2 => sp (x :: vs) H2 Q (E σ)
section
variable {X : Cx} {CX : CXT} {k : Nat} {f C : Addr} {fd : FuncData} {ps : List Str} {sp : Sp} {E : L2.St → XK} {m : Str} {pos apos : Pos} {e o : Expr} {es : List Expr} {ta : TE} {t : TA}
theorem pe_methA {pl : Sem Bool} (he : PE X o ta) (c : Cls X.K C) (hm : Meth X.K C m f) (F : FnOk X.prog X.w X.K X.mg X.base CX k f fd ps sp) (hr : Room k X.A) (hb : Binds X.K fd ps []) (hx : ∀ σ, PassesAt CX X σ (E σ)) (ha : PA X (e :: es) t)
    (hst : starEach (e :: es) X.env = (false, eval e X.env) :: starEach es X.env := by rfl) (hpl : (backTo pos (starEach es X.env)).any (·.1) = false := by rfl)
    (ht : eval (.Call (.Attribute o m apos) (e :: es) [] pos) X.env = (do
      let ov ← eval o X.env
      standAt apos.atName
      let (f, first) ← holding [ov] (getMethod ov m pl)
      callWith pos f first (backTo pos (starEach (e :: es) X.env)) (backToKw pos (keywordEach [] X.env))) := by rfl) :
    PE X (.Call (.Attribute o m apos) (e :: es) [] pos) (tMethA C m sp E ta t) := by
  refine ⟨fun pins s σ H Q I h => ?_⟩
  refine PySem.W.methodCall_KW (pl := pl) (thn (he.run pins s σ H _ I h) fun u s1 ⟨x, H1, I1, rx, a, dx, fs, ex, ea, l, q⟩ => ?_) ht
  subst ex
  obtain rfl : u = Value.ref a := rx
  refine getmeth_ok I1 ea c hm l ?_
  refine PySem.W.callWith_K (first := [.ref a]) (h₀ := X.base) I.ok.mod.kin hm.kp (thn (ha.run pos pins s1 σ H1 _ I1 q) fun us s2 ⟨vs, H2, I2, r, q2⟩ => ⟨I2.kIn, ?_⟩) hst hpl
  exact run_fnS (us := .ref a :: us) (vs := .ref a :: vs) F hr hb (hx σ) I2 (.cons rfl r) q2
theorem pe_methA0 {pl : Sem Bool} (he : PE X o ta) (c : Cls X.K C) (hm : Meth X.K C m f) (F : FnOk X.prog X.w X.K X.mg X.base CX k f fd ps sp) (hr : Room k X.A) (hb : Binds X.K fd ps []) (hx : ∀ σ, PassesAt CX X σ (E σ))
    (ht : eval (.Call (.Attribute o m apos) [] [] pos) X.env = (do
      let ov ← eval o X.env
      standAt apos.atName
      let (f, first) ← holding [ov] (getMethod ov m pl)
      callWith pos f first (backTo pos (starEach [] X.env)) (backToKw pos (keywordEach [] X.env))) := by rfl) :
    PE X (.Call (.Attribute o m apos) [] [] pos) (tMethA C m sp E ta tNil) := by
  refine ⟨fun pins s σ H Q I h => ?_⟩
  refine PySem.W.methodCall_KW (pl := pl) (thn (he.run pins s σ H _ I h) fun u s1 ⟨x, H1, I1, rx, a, dx, fs, ex, ea, l, q⟩ => ?_) ht
  subst ex
  obtain rfl : u = Value.ref a := rx
  refine getmeth_ok I1 ea c hm l ?_
  exact PySem.W.callWith_K0 (first := [.ref a]) I1.kIn hm.kp (run_fnS (us := [.ref a]) (vs := [.ref a]) F hr hb (hx σ) I1 (.cons rfl .nil) q)
end
/-! ### a def that is handed the caught exception, within the suite -/
structure FnE (P : Program) (w : World) (K : PySem.W.Frag) (mg : Str → Option Value) (base : Heap) (CX : CXT) (k : Nat) (f : Addr) (fd : FuncData) (ps : List Str) (sp : Addr → Addr → Sp) : Prop where
  len : ∀ D a vs H Q E, sp D a vs H Q E → vs.length = ps.length
  run : ∀ (A : Around) (outer : List Env) (s : Shared) (H : Hp) (args : Args) (us : List Value) (vs : List V) (Q : VK) (E : XK) (p : Addr × Obj) (D : Addr), RoomH k A → Zc (.ref D) none p.2 → (∃ vs, p.2.data = .fields vs) → PinOk outer H s p → Env0 P w K mg base A outer s H → BindsTo s fd args (ps.zip us) → Vals vs us → sp D p.1 vs H Q E →
    codeAny (model P w) A (.call (.ref f) args) (CR CX outer P w H s Q E) s
theorem fn_ofE {CX : CXT} {P : Program} {w : World} {K : PySem.W.Frag} {mg : Str → Option Value} {base : Heap} {k : Nat} {f : Addr} {name qual : Str} {params : Arguments} {body : List Stmt} {scope : Scope} {dV kV doc pm cdv ct oc : Value} {an od : Option Addr}
    {osl : Array (Option Value)} {N ps : List Str} {sp : Addr → Addr → Sp} (lk : K.lookup f = some ⟨oc, od, .func (PySem.W.fnOf name qual params body scope dV kV doc pm an cdv ct), osl⟩) (hcd : PySem.W.codeIn K cdv qual = true) (S : FnScope N ps scope)
    (len : ∀ D a vs H Q E, sp D a vs H Q E → vs.length = ps.length)
    (hbody : ∀ (A : Around) (outer : List Env) (s : Shared) (H : Hp) (vs : List V) (Q : VK) (E : XK) (p : Addr × Obj) (D : Addr), RoomH k (A.deeper (envOfC qual scope s.heap.objs.size f cdv)) → Zc (.ref D) none p.2 → (∃ vs, p.2.data = .fields vs) → sp D p.1 vs H Q E →
      ∃ t, PSs (cxH CX P w K mg base N qual scope f cdv A outer s H E p) body t ∧ t { nx := fun _ H' => Q .non H', rt := Q } (L2.start N vs) H) :
    FnE P w K mg base CX (k + 1) f (PySem.W.fnOf name qual params body scope dV kV doc pm an cdv ct) ps sp := by
  refine ⟨len, fun A outer s H args us vs Q E p D hr hz hf hpin e0 hb r hsp => ?_⟩
  have hl := len _ _ _ _ _ _ hsp
  have KX : K.In s.heap := e0.mod.kin.keeps fun b o e => (e0.bs b o e).1
  have lim : s.heap.NoLimit := e0.mod.nolimit.keeps fun b o e => (e0.bs b o e).1
  have hkind : ∀ y ∈ ps.zip us, scope.names.lookup y.1 = some .local ∨ (scope.names.lookup y.1 = some .cell ∧ ((cellsFrom (s.heap.objs.size + 1) scope.names []).lookup y.1).isSome = true) := fun ⟨n, v⟩ hy => by
    rcases S.par n (List.of_mem_zip hy).1 with q | q
    · exact .inl q
    · exact .inr ⟨q, PySem.W.cellsFrom_some _ _ _ (.inl q)⟩
  refine codeAny_call_function hr.depth (KX _ _ lk) rfl S.co S.gen rfl (PySem.W.codeRec_of KX hcd) (hb _ _ _ _ ?_)
  refine wpAny_newFunctionEnv_cells S.kind hkind fun env he s1 x => ?_
  subst he
  refine ⟨lim.keeps x.toInCall.keep, codeAny_func ?_⟩
  obtain ⟨t, ht, hq⟩ := hbody A outer s H vs Q E p D (hr.deeper _) hz hf hsp
  have I : Inv (cxH CX P w K mg base N qual scope f cdv A outer s H E p) [] (L2.start N vs) H s1 := inv_startH S hpin e0 hl r x
  refine wpAny_mono (ht.run [] s1 (L2.start N vs) H _ I hq) (fun fl s' hs => ?_) fun e s' hs => hs
  have fin : ∀ {σ' : L2.St} {H' : Hp} {v : V} {u : Value}, Inv (cxH CX P w K mg base N qual scope f cdv A outer s H E p) [] σ' H' s' → RelV v u → Q v H' → CE outer P w H s Q u s' :=
    fun {σ' H' v u} J rv q => ⟨v, H', J.os, J.bare, J.base, J.hok, rv, q⟩
  cases fl with
  | ret u =>
    obtain ⟨v, σ', H', J, rv, q⟩ := hs
    exact fin J rv q
  | next =>
    obtain ⟨σ', H', J, q⟩ := hs
    exact fin (v := V.non) (u := Value.none) J rfl q
  | brk =>
    obtain ⟨_, _, _, q⟩ := hs
    exact False.elim q
  | cont =>
    obtain ⟨_, _, _, q⟩ := hs
    exact False.elim q
section
variable {P : Program} {w : World} {K : PySem.W.Frag} {mg : Str → Option Value} {base : Heap}
theorem okE {x qual : Str} {st : Stmt} {f : Addr} {fd : FuncData} {N ps : List Str} {k : Nat} {sp : Addr → Addr → Sp} (F : Fun K x qual st f fd) (S : FnScope N ps (defScope st)) (len : ∀ D a vs H Q E, sp D a vs H Q E → vs.length = ps.length)
    (hbody : ∀ (cdv : Value) (A : Around) (outer : List Env) (s : Shared) (H : Hp) (vs : List V) (Q : VK) (E : XK) (p : Addr × Obj) (D : Addr), RoomH k (A.deeper (envOfC qual (defScope st) s.heap.objs.size f cdv)) → Zc (.ref D) none p.2 → (∃ vs, p.2.data = .fields vs) → sp D p.1 vs H Q E →
      ∃ t, PSs (cxH CX0 P w K mg base N qual (defScope st) f cdv A outer s H E p) (defBody st) t ∧ t { nx := fun _ H' => Q .non H', rt := Q } (L2.start N vs) H) : FnE P w K mg base CX0 (k + 1) f fd ps sp := by
  obtain ⟨oc, od, kV, doc, pm, an, cdv, ct, osl, rfl, lk, hcd⟩ := F.ex
  exact fn_ofE lk hcd S len fun A outer s H vs Q E p D hr hz hf hsp => hbody cdv A outer s H vs Q E p D hr hz hf hsp
end
def tCallE (sp : Addr → Addr → Sp) (cls : Value) (d : Option Addr) (a : Addr) (E : L2.St → XK) (t : TA) : TE := fun σ H Q => t σ H fun vs H1 => ∃ D, cls = .ref D ∧ d = none ∧ sp D a vs H1 Q (E σ)
section
variable {X : Cx} {CX : CXT} {k : Nat} {f : Addr} {fd : FuncData} {ps : List Str} {sp : Addr → Addr → Sp} {E : L2.St → XK} {x : Str} {q pos : Pos} {e : Expr} {es : List Expr} {t : TA} {a : Addr} {oe : Obj} {cls : Value} {d : Option Addr} {pn : List (Addr × Obj)}
theorem pass0E {X : Cx} {σ : L2.St} {E : XK} : PassesAt CX0 X σ E := fun _ _ _ _ _ _ h => h.elim
theorem pe_callE (hz : Zc cls d oe) (hf : ∃ vs, oe.data = .fields vs) (F : FnE X.prog X.w X.K X.mg X.base CX k f fd ps sp) (hr : Room k X.A) (hg : Gl (X.suite a ((a, oe) :: pn)) x) (hm : X.mg x = some (.ref f)) (hk : PySem.W.keepIn X.K (.ref f) = true) (hb : Binds X.K fd ps []) (hx : ∀ σ, PassesAt CX (X.suite a ((a, oe) :: pn)) σ (E σ))
    (ha : PA (X.suite a ((a, oe) :: pn)) (e :: es) t) (hdb : (x == ("__debug__" : Str)) = false := by decide) (he : starEach (e :: es) X.env = (false, eval e X.env) :: starEach es X.env := by rfl) (hpl : (backTo pos (starEach es X.env)).any (·.1) = false := by rfl) :
    PE (X.suite a ((a, oe) :: pn)) (.Call (.Name x q) (e :: es) [] pos) (tCallE sp cls d a E t) := by
  refine ⟨fun pins s σ H Q I h => ?_⟩
  refine wpAny_Call_Name_kw (ld_glob I hg hm ?_ hdb)
  refine PySem.W.callWith_K (h₀ := X.base) I.ok.mod.kin hk (thn (ha.run pos pins s σ H _ I h) fun us s1 ⟨vs, H1, I1, r, q⟩ => ⟨I1.kIn, ?_⟩) he hpl
  obtain ⟨D, rfl, rfl, q⟩ := q
  have hl : us.length = ps.length := by rw [← r.length]; exact F.len _ _ _ _ _ _ q
  have b := hb s1 us I1.kIn (by rw [List.append_nil]; exact hl)
  rw [List.append_nil] at b
  have P1 := I1.pin (a, oe) (List.mem_append_left _ List.mem_cons_self)
  have hpin : PinOk X.stack H1 s1 (a, oe) := ⟨P1.1, P1.2.1, fun hm => (List.mem_cons.mp (I1.stkSub a hm)).elim P1.2.2.1 P1.2.2.2.1, P1.2.2.2.2⟩
  refine wpAny_call (codeAny_mono (F.run _ X.stack s1 H1 ⟨us, []⟩ us vs Q (E σ) (a, oe) D ⟨hr.dp, hr.un⟩ hz hf hpin I1.env0 b r q) fun r s' hq => ?_)
  cases r with
  | error e => exact hx σ pins H1 s1 e s' I1 hq
  | ok fl =>
    cases fl with
    | ret u => exact I1.after hq
    | next => exact False.elim hq
    | brk => exact False.elim hq
    | cont => exact False.elim hq
end
/-- isinstance(e, c), e the exception that is handed in -/
def rIsP (K : PySem.W.Frag) (D a : Addr) : List V → Hp → VK → Prop := fun xs H Q => ExcC K D ∧ rIsE K D a xs H Q
theorem call_isP {X : Cx} {D : Addr} {p : Addr × Obj} (hp : p ∈ X.pn) (hz : Zc (.ref D) none p.2) (hf : ∃ vs, p.2.data = .fields vs) : CallR X (.builtin "isinstance") (rIsP X.K D p.1) := by
  intro pins s σ H xs us Q I r h
  obtain ⟨C, c, cv, b, rfl, hcv, e, q⟩ := h
  cases r with
  | cons rx rr =>
    cases rr with
    | cons rt rr =>
      cases rr
      cases rx
      have ec := hcv _ rt
      subst ec
      obtain ⟨hget, _⟩ := I.pin p (List.mem_append.mpr (.inl hp))
      obtain ⟨vs, hv⟩ := hf
      have J : PySem.W.InstAt s.heap p.1 p.2 D none := by
        obtain ⟨a, oc, od, oda, osl⟩ := p
        obtain ⟨h1, h2⟩ := hz
        dsimp only at h1 h2 hv hget ⊢
        subst h1 h2 hv
        exact ⟨hget, rfl, rfl, trivial⟩
      exact PySem.W.kia_one (PySem.W.handS_kitx_exc C.hg C.hk C.hs C.hd C.ha C.hn C.ht C.hm) I.kIn J e (fun z => nomatch z) fun tk => ⟨.bl b, H, I.kept (t' := tk) fun _ _ z => z, rfl, q⟩
theorem ev_isP {K : PySem.W.Frag} {D a C : Addr} {σ : L2.St} {H : Hp} {ta tb : TE} {b : Bool} (hC : ExcC K D) (h : Ev ta σ H (.ref a)) (hn : Ev tb σ H (.ref C)) (hk : PySem.W.kitOne K (.ref D) (.ref C) = some b) : Ev (tCB (rIsP K D a) (tCons ta (tCons tb tNil))) σ H (.bl b) :=
  ev_cb (ea_cons h (ea_cons hn ea_nil)) fun H1 e Q q => ⟨hC, .ref C, .ref C, b, rfl, fun u hu => hu, hk, q H1 (Ex.refl H1)⟩
/-- isinstance in the suite, the class open -/
def rIsQ (K : PySem.W.Frag) (a : Addr) (cls : Value) (d : Option Addr) : List V → Hp → VK → Prop := fun xs H Q => ∃ D, cls = .ref D ∧ d = none ∧ ExcC K D ∧ rIsE K D a xs H Q
theorem call_isQ {X : Cx} {a : Addr} {oe : Obj} {cls : Value} {d : Option Addr} {pn : List (Addr × Obj)} (hz : Zc cls d oe) (hf : ∃ vs, oe.data = .fields vs) : CallR (X.suite a ((a, oe) :: pn)) (.builtin "isinstance") (rIsQ X.K a cls d) := by
  intro pins s σ H xs us Q I r h
  obtain ⟨D, rfl, rfl, C, h⟩ := h
  exact call_isE C hz hf pins s σ H xs us Q I r h
theorem ev_isQ {K : PySem.W.Frag} {D a C : Addr} {σ : L2.St} {H : Hp} {ta tb : TE} {b : Bool} (hC : ExcC K D) (h : Ev ta σ H (.ref a)) (hn : Ev tb σ H (.ref C)) (hk : PySem.W.kitOne K (.ref D) (.ref C) = some b) : Ev (tCB (rIsQ K a (.ref D) none) (tCons ta (tCons tb tNil))) σ H (.bl b) :=
  ev_cb (ea_cons h (ea_cons hn ea_nil)) fun H1 e Q q => ⟨D, rfl, rfl, hC, .ref C, .ref C, b, rfl, fun u hu => hu, hk, q H1 (Ex.refl H1)⟩
theorem el_is {te : TE} {σ : L2.St} {H : Hp} {xs ys : List V} (h : EvL te σ H xs) (e : xs = ys) : EvL te σ H ys := by
  rw [← e]
  exact h
theorem rv_isN {H : Hp} {x : V} : RV (fun x y H Q => y = .non ∧ Q (.bl (decide (x = .non))) H) x .non H (.bl (decide (x = .non))) := rv_val fun _ _ Q q => ⟨rfl, q⟩
theorem rv_notN {H : Hp} {x : V} : RV (fun x y H Q => y = .non ∧ Q (.bl (!decide (x = .non))) H) x .non H (.bl (!decide (x = .non))) := rv_val fun _ _ Q q => ⟨rfl, q⟩
/-- a call, then a new instance by its __init__ -/
theorem q_make {C : Addr} {sp : Sp} {σ : L2.St} {H : Hp} {t : TA} {vs : List V} {E : XK} {i : Nat} {tz : TS} {D : Ends} (ht : EvA t σ H vs) (k : ∀ p dx H1 H2, H p = none → H1 p = none → Ex H H1 → H2 p = some (.ins C dx []) → Ex H1 H2 → sp (.ref p :: vs) H2 (fun v H3 => v = .non ∧ tz D (σ.set i (some (.ref p))) H3) E) : tSeq (tAsg (tMake C sp [] E t) (gName i)) tz D σ H :=
  ht H (Ex.refl _) _ fun H1 e1 p dx hp hd hne => by
    have h := k p dx H1 (upd (upd H1 dx (.own p)) p (.ins C dx [])) (fresh_back e1 hp) hp e1 upd_same ((Ex.new hd).mut hp)
    rw [show V.ref p :: (vs ++ []) = V.ref p :: vs by rw [List.append_nil]]
    exact h
/-- runs of a call -/
theorem q_run {sp : Sp} {σ : L2.St} {H : Hp} {tr : TA} {vs : List V} {E : XK} {tz : TS} {D : Ends} {i : Nat} (h : EvA tr σ H vs) (k : ∀ H1, Ex H H1 → sp vs H1 (fun v H2 => tz D (σ.set i (some v)) H2) E) : tSeq (tAsg (tCall sp [] E tr) (gName i)) tz D σ H := h H (Ex.refl H) _ fun H1 e => by
    rw [List.append_nil]
    exact k H1 e
/-! ### what fields and methods evaluate to -/
section
variable {K : PySem.W.Frag} {σ : L2.St} {H : Hp} {ta tb te : TE} {t : TA} {v z : V} {C p dx : Addr} {fs : List (Str × V)} {m : Str} {sp : Sp} {vs : List V} {tz : TS} {D : Ends}
theorem ev_fld (ha : Ev ta σ H (.ref p)) (hi : H p = some (.ins C dx fs)) (c : Cls K C) (n : NoAttr K C m) (hl : fs.lookup m = some v) : Ev (tFld K ta m) σ H v := fun H1 e Q q =>
  ha H1 e _ fun H2 e2 => ⟨p, C, dx, fs, v, rfl, e2 _ _ (e _ _ hi), c, n, hl, q H2 e2⟩
theorem ev_meth {E : XK} (ha : Ev ta σ H (.ref p)) (hi : H p = some (.ins C dx fs)) (hl : fs.lookup m = none) (ht : EvA t σ H vs) (hs : SpV sp (.ref p :: vs) H z) : Ev (tMeth C m sp [] E ta t) σ H z := fun H1 e Q q =>
  ha H1 e _ fun H2 e2 => ⟨p, dx, fs, rfl, e2 _ _ (e _ _ hi), hl, ht H2 (e.trans e2) _ fun H3 e3 => by
    rw [List.append_nil]
    exact hs H3 ((e.trans e2).trans e3) Q (fun H4 e4 => q H4 ((e2.trans e3).trans e4)) E⟩
theorem ev_meth0 {E : XK} (ha : Ev ta σ H (.ref p)) (hi : H p = some (.ins C dx fs)) (hl : fs.lookup m = none) (hs : SpV sp [.ref p] H z) : Ev (tMeth C m sp [] E ta tNil) σ H z := ev_meth ha hi hl ea_nil hs
/-- a method that changes something: its own promise, then the rest -/
theorem m_run {E : XK} {Q : VK} (ha : Ev ta σ H (.ref p)) (hi : H p = some (.ins C dx fs)) (hl : fs.lookup m = none) (ht : EvA t σ H vs) (k : ∀ H1, Ex H H1 → sp (.ref p :: vs) H1 Q E) : tMeth C m sp [] E ta t σ H Q :=
  ha H (Ex.refl _) _ fun H2 e2 => ⟨p, dx, fs, rfl, e2 _ _ hi, hl, ht H2 e2 _ fun H3 e3 => by
    rw [List.append_nil]
    exact k H3 (e2.trans e3)⟩
theorem mA_run {E : L2.St → XK} {Q : VK} (ha : Ev ta σ H (.ref p)) (hi : H p = some (.ins C dx fs)) (hl : fs.lookup m = none) (ht : EvA t σ H vs) (k : ∀ H1, Ex H H1 → sp (.ref p :: vs) H1 Q (E σ)) : tMethA C m sp E ta t σ H Q :=
  ha H (Ex.refl _) _ fun H2 e2 => ⟨p, dx, fs, rfl, e2 _ _ hi, hl, ht H2 e2 _ fun H3 e3 => k H3 (e2.trans e3)⟩
theorem q_m {E : XK} (ha : Ev ta σ H (.ref p)) (hi : H p = some (.ins C dx fs)) (hl : fs.lookup m = none) (ht : EvA t σ H vs) (k : ∀ H1, Ex H H1 → sp (.ref p :: vs) H1 (fun _ H2 => tz D σ H2) E) : tSeq (tDrop (tMeth C m sp [] E ta t)) tz D σ H := m_run (Q := fun _ H2 => tz D σ H2) ha hi hl ht k
theorem s_m {E : XK} (ha : Ev ta σ H (.ref p)) (hi : H p = some (.ins C dx fs)) (hl : fs.lookup m = none) (ht : EvA t σ H vs) (k : ∀ H1, Ex H H1 → sp (.ref p :: vs) H1 (fun _ H2 => D.nx σ H2) E) : tDrop (tMeth C m sp [] E ta t) D σ H := m_run (Q := fun _ H2 => D.nx σ H2) ha hi hl ht k
theorem r_m {E : XK} (ha : Ev ta σ H (.ref p)) (hi : H p = some (.ins C dx fs)) (hl : fs.lookup m = none) (ht : EvA t σ H vs) (k : ∀ H1, Ex H H1 → sp (.ref p :: vs) H1 D.rt E) : tRet (tMeth C m sp [] E ta t) D σ H := m_run (Q := D.rt) ha hi hl ht k
theorem q_mA {i : Nat} {E : XK} (ha : Ev ta σ H (.ref p)) (hi : H p = some (.ins C dx fs)) (hl : fs.lookup m = none) (ht : EvA t σ H vs) (k : ∀ H1, Ex H H1 → sp (.ref p :: vs) H1 (fun v H2 => tz D (σ.set i (some v)) H2) E) : tSeq (tAsg (tMeth C m sp [] E ta t) (gName i)) tz D σ H := m_run (Q := fun v H2 => tz D (σ.set i (some v)) H2) ha hi hl ht k
/-- the same in a try's body -/
theorem r_mA {E : L2.St → XK} (ha : Ev ta σ H (.ref p)) (hi : H p = some (.ins C dx fs)) (hl : fs.lookup m = none) (ht : EvA t σ H vs) (k : ∀ H1, Ex H H1 → sp (.ref p :: vs) H1 D.rt (E σ)) : tRet (tMethA C m sp E ta t) D σ H := mA_run (Q := D.rt) ha hi hl ht k
theorem q_mAD {E : L2.St → XK} (ha : Ev ta σ H (.ref p)) (hi : H p = some (.ins C dx fs)) (hl : fs.lookup m = none) (ht : EvA t σ H vs) (k : ∀ H1, Ex H H1 → sp (.ref p :: vs) H1 (fun _ H2 => tz D σ H2) (E σ)) : tSeq (tDrop (tMethA C m sp E ta t)) tz D σ H := mA_run (Q := fun _ H2 => tz D σ H2) ha hi hl ht k
theorem q_mAA {i : Nat} {E : L2.St → XK} (ha : Ev ta σ H (.ref p)) (hi : H p = some (.ins C dx fs)) (hl : fs.lookup m = none) (ht : EvA t σ H vs) (k : ∀ H1, Ex H H1 → sp (.ref p :: vs) H1 (fun v H2 => tz D (σ.set i (some v)) H2) (E σ)) : tSeq (tAsg (tMethA C m sp E ta t) (gName i)) tz D σ H := mA_run (Q := fun v H2 => tz D (σ.set i (some v)) H2) ha hi hl ht k
/-- o.f = e -/
theorem s_fld (hv : Ev te σ H v) (ha : Ev ta σ H (.ref p)) (hi : H p = some (.ins C dx fs)) (c : Cls K C) (n : NoAttr K C m) (hz : fs.length < 1000) (k : ∀ H1, Ex H H1 → D.nx σ (upd H1 p (.ins C dx (putF m v fs)))) : sFld K ta te m D σ H :=
  hv H (Ex.refl _) _ fun H1 e1 => ha H1 e1 _ fun H2 e2 => ⟨p, C, dx, fs, rfl, e2 _ _ (e1 _ _ hi), c, n, hz, k H2 (e1.trans e2)⟩
theorem s_fldL {xs : List V} (hv : EvL te σ H xs) (ha : Ev ta σ H (.ref p)) (hi : H p = some (.ins C dx fs)) (c : Cls K C) (n : NoAttr K C m) (hz : fs.length < 1000) (k : ∀ l H1, H l = none → Ex H H1 → H1 l = some (.lst xs) → D.nx σ (upd H1 p (.ins C dx (putF m (.ref l) fs)))) : sFld K ta te m D σ H :=
  hv H (Ex.refl _) _ fun l H1 hl e1 h1 => ha H1 e1 _ fun H2 e2 => ⟨p, C, dx, fs, rfl, e2 _ _ (e1 _ _ hi), c, n, hz, k l H2 hl (e1.trans e2) (e2 _ _ h1)⟩
theorem q_fld (hv : Ev te σ H v) (ha : Ev ta σ H (.ref p)) (hi : H p = some (.ins C dx fs)) (c : Cls K C) (n : NoAttr K C m) (hz : fs.length < 1000) (k : ∀ H1, Ex H H1 → tz D σ (upd H1 p (.ins C dx (putF m v fs)))) : tSeq (sFld K ta te m) tz D σ H := s_fld (D := { D with nx := tz D }) hv ha hi c n hz k
theorem q_fldL {xs : List V} (hv : EvL te σ H xs) (ha : Ev ta σ H (.ref p)) (hi : H p = some (.ins C dx fs)) (c : Cls K C) (n : NoAttr K C m) (hz : fs.length < 1000) (k : ∀ l H1, H l = none → Ex H H1 → H1 l = some (.lst xs) → tz D σ (upd H1 p (.ins C dx (putF m (.ref l) fs)))) : tSeq (sFld K ta te m) tz D σ H := s_fldL (D := { D with nx := tz D }) hv ha hi c n hz k
/-- xs[j] += e -/
theorem s_augL {f : Int → Int → Int} {l : Addr} {xs : List V} {j : Nat} {a b : Int} (ho : Ev ta σ H (.ref l)) (hi : Ev tb σ H (.int (j : Int))) (hl : H l = some (.lst xs)) (hj : xs[j]? = some (.int a)) (he : Ev te σ H (.int b)) (k : ∀ H1, Ex H H1 → D.nx σ (upd H1 l (.lst (xs.set j (.int (f a b)))))) :
    tAugS ta tb te (rIxL K) (ipI f) rSetL D σ H := ho H (Ex.refl _) _ fun H1 e1 => hi H1 e1 _ fun H2 e2 => ⟨l, xs, (j : Int), .int a, rfl, rfl, sq_of (e2 _ _ (e1 _ _ hl)), atI_nat hj, he H2 (e1.trans e2) _ fun H3 e3 => ⟨a, b, rfl, rfl, l, xs, (j : Int), j, rfl, rfl, e3 _ _ (e2 _ _ (e1 _ _ hl)), ixN_nat (List.getElem?_eq_some_iff.mp hj).1, k H3 ((e1.trans e2).trans e3)⟩⟩
theorem q_augL {f : Int → Int → Int} {l : Addr} {xs : List V} {j : Nat} {a b : Int} (ho : Ev ta σ H (.ref l)) (hi : Ev tb σ H (.int (j : Int))) (hl : H l = some (.lst xs)) (hj : xs[j]? = some (.int a)) (he : Ev te σ H (.int b)) (k : ∀ H1, Ex H H1 → tz D σ (upd H1 l (.lst (xs.set j (.int (f a b)))))) :
    tSeq (tAugS ta tb te (rIxL K) (ipI f) rSetL) tz D σ H := s_augL (D := { D with nx := tz D }) ho hi hl hj he k
end
/-! ### heaps in which the objects of S may change -/
def Fr (S : Addr → Prop) (H H' : Hp) : Prop := ∀ a o, H a = some o → ¬ S a → H' a = some o
theorem Fr.of {S : Addr → Prop} {H H' : Hp} (e : Ex H H') : Fr S H H' := fun a o h _ => e a o h
theorem Fr.trans {S : Addr → Prop} {H H1 H2 : Hp} (e : Fr S H H1) (f : Fr S H1 H2) : Fr S H H2 := fun a o h n => f a o (e a o h n) n
theorem Fr.mut {S : Addr → Prop} {H H' : Hp} {p : Addr} {o : HO} (e : Fr S H H') (h : S p) : Fr S H (upd H' p o) := fun a u ha n => by
  rw [upd_ne fun z => n (by rw [z]; exact h)]
  exact e a u ha n
theorem Fr.fresh {S : Addr → Prop} {H H' : Hp} {p : Addr} (e : Fr S H H') (h : H' p = none) (n : ¬ S p) : H p = none := by
  cases h1 : H p with
  | none => rfl
  | some o =>
    rw [e p o h1 n] at h
    cases h
/-- what H0 has stays, when what changes is none of it -/
theorem Fr.ex {S : Addr → Prop} {H0 H H' : Hp} (e : Ex H0 H) (f : Fr S H H') (n : ∀ a, S a → H0 a = none) : Ex H0 H' := fun a o h => f a o (e a o h) fun s => by
  rw [n a s] at h
  cases h
/-- what is read stands when an instance changes -/
theorem mut_l {K : PySem.W.Frag} {H H1 : Hp} {p C dx a : Addr} {fs fs' : List (Str × V)} {xs : List V} (e : Ex H H1) (hp : H p = some (.ins C dx fs)) (h : SqL K H a xs) : SqL K (upd H1 p (.ins C dx fs')) a xs := by
  rcases h with (h | ⟨o, h⟩) | h
  · exact .inl (.inl (by rw [upd_ne (ne_of h hp (by intro z; cases z))]; exact e _ _ h))
  · exact .inl (.inr ⟨o, by rw [upd_ne (ne_of h hp (by intro z; cases z))]; exact e _ _ h⟩)
  · exact .inr h
theorem mut_t {K : PySem.W.Frag} {H H1 : Hp} {p C dx a : Addr} {fs fs' : List (Str × V)} {xs : List V} (e : Ex H H1) (hp : H p = some (.ins C dx fs)) (h : SqT K H a xs) : SqT K (upd H1 p (.ins C dx fs')) a xs := by
  rcases h with (h | ⟨o, h⟩) | h
  · exact .inl (.inl (by rw [upd_ne (ne_of h hp (by intro z; cases z))]; exact e _ _ h))
  · exact .inl (.inr ⟨o, by rw [upd_ne (ne_of h hp (by intro z; cases z))]; exact e _ _ h⟩)
  · exact .inr h
/-- list(a tuple) -/
theorem el_listT {K : PySem.W.Frag} {σ : L2.St} {H : Hp} {ta : TE} {p : Addr} {xs : List V} (ha : Ev ta σ H (.ref p)) (h : SqT K H p xs) : EvL (tCB (rListS K) (tCons ta tNil)) σ H xs := fun H1 e Q q =>
  ha H1 e _ fun H2 e2 => ⟨p, xs, rfl, Or.inr (ex_t (e.trans e2) h), fun l hl => q l _ (fresh_back e2 hl) (e2.trans (Ex.new hl)) upd_same⟩
/-! ### comprehensions over two lists at once -/
theorem el_lcZ {K : PySem.W.Frag} {σ : L2.St} {H : Hp} {a b : Addr} {xs ys : List V} {t : TA} {tt : TT} {te : TE} {i j : Nat} {vs : List Nat} (f : Nat → Bool) (v : Nat → V) (h : EvA t σ H [.ref a, .ref b]) (hx : SqL K H a xs) (hy : SqL K H b ys) (hlen : xs.length = ys.length) (hz : xs.length ≤ 40000)
    (hw : ∀ x y, wipe (((wipe σ vs).set i (some x)).set j (some y)) vs = wipe σ vs)
    (ht : ∀ (n : Nat) (x y : V) H1, Ex H H1 → xs[n]? = some x → ys[n]? = some y → EvT tt (((wipe σ vs).set i (some x)).set j (some y)) H1 (f n)) (he : ∀ (n : Nat) (x y : V) H1, Ex H H1 → xs[n]? = some x → ys[n]? = some y → f n = true → Ev te (((wipe σ vs).set i (some x)).set j (some y)) H1 (v n)) :
    EvL (tLc (iZip K t) (gTup K 2 (gCons (gName i) (gCons (gName j) gNil))) tt te vs) σ H (given xs.length f v) := fun H0 e Q q => h H0 e _ fun H1 e1 => ⟨a, b, xs, ys, rfl, ex_l (e.trans e1) hx, ex_l (e.trans e1) hy, fun Dl hD =>
  lc_it (walk_zip (K := K) (a := a) (b := b) (xs := xs) (ys := ys) (n := xs.length) (by omega)) (Cw H1 f v Dl) ⟨hD, Ex.new hD, upd_same⟩ (fun i H' _ p => ⟨ex_l ((e.trans e1).trans p.2.1) hx, ex_l ((e.trans e1).trans p.2.1) hy⟩)
    (fun n z H2 H2' hn p y => by
      obtain ⟨T, x1, y1, rfl, hT, rfl, h1, h2⟩ := y
      have p' : Cw H1 f v Dl n (upd H2 T (.tup [x1, y1])) := ⟨p.1, p.2.1.trans (Ex.new hT), (Ex.new hT) _ _ p.2.2⟩
      have e2 := ((e.trans e1).trans p'.2.1)
      refine ⟨T, _, rfl, st_of upd_same, rfl, _, _, rfl, _, _, rfl, rfl, hw x1 y1, cw_turn (H := H1) p' (by omega) ?_ ?_⟩
      · exact ht n x1 y1 H1 (e.trans e1) h1 h2
      · exact fun hf => he n x1 y1 H1 (e.trans e1) h1 h2 hf)
    (fun H' p => q Dl H' (fresh_back e1 p.1) (e1.trans p.2.1) p.2.2)⟩
end LO

set_option Elab.async false
set_option linter.all false
set_option maxRecDepth 100000
set_option maxHeartbeats 4000000
namespace LN
open PySem PySem.Spec PyProof.Rows L2 Evl LT LG LS LQ
section
variable {X : Cx} {σ : L2.St} {H : Hp} {P : Addr} {scope : Scope} {x : Str} {u : Value} {a b c : Expr} {za zb zc z : V} {pos p : Pos}
theorem qv_ixL {l : Addr} {xs : List V} {i : Int} (hT : Tab H P) (hq : SqL X.K H l xs) (he : atI xs i = some z) (h0 : 0 ≤ i) (ha : QV X σ H P scope x u a (.ref l)) (hb : QV X σ H P scope x u b (.int i)) (hs : PlainIx b := by intro _ _; rfl) : QV X σ H P scope x u (.Subscript a b pos) z := fun cenv A' E' s m F =>
  Subscript_ (qv_two (f := fun v w => subscriptTail a b v w) ha hb (fun cenv A' E' s2 m2 v w F2 r1 r2 => by
    cases r1
    obtain ⟨t, rfl⟩ := r2
    obtain ⟨its, r, pl, hz⟩ := F2.list hT hq
    obtain ⟨j, h1, h2, h3, h4, h5⟩ := atI_get he
    obtain ⟨w', ew, rw'⟩ := r.get h2
    have hl := r.length
    have hn := line63
    have hj : i.toNat = j := by
      rw [seqIndex_of h0 h5] at h1
      exact Option.some.inj h1
    exact item_listR pl.isList h0 (by omega) (by rw [hj]; simpa using ew) ⟨rw', kp_refl _⟩ (hs _ _)) cenv A' E' s m F)
theorem qv_ixT {l : Addr} {xs : List V} {i : Int} (hT : Tab H P) (hq : SqT X.K H l xs) (he : atI xs i = some z) (ha : QV X σ H P scope x u a (.ref l)) (hb : QV X σ H P scope x u b (.int i)) (hs : PlainIx b := by intro _ _; rfl) : QV X σ H P scope x u (.Subscript a b pos) z := fun cenv A' E' s m F =>
  Subscript_ (qv_two (f := fun v w => subscriptTail a b v w) ha hb (fun cenv A' E' s2 m2 v w F2 r1 r2 => by
    cases r1
    obtain ⟨t, rfl⟩ := r2
    obtain ⟨its, r, pl, hz⟩ := F2.tuple hT hq
    obtain ⟨j, h1, h2, h3, h4, h5⟩ := atI_get he
    obtain ⟨w', ew, rw'⟩ := r.get h2
    have hl := r.length
    have hn := line63
    exact subscriptTail_builtinR (x := w') pl.typeIs slot_tuple_getitem.lookup
      (getItem_tuple (j := j) (Q := fun r s' => r = w' ∧ (RelV z r ∧ Keeps s2 s')) pl (by omega) (by omega) (by rw [List.size_toArray, ← hl]; exact h1) (by simpa using ew) ⟨rfl, rw', kp_refl _⟩) (hs _ _)) cenv A' E' s m F)
theorem qr_ltT {l r : Addr} {ns ms : List Int} (hT : Tab H P) (hu : X.A.units + 8 < cLine) (ha : SqT X.K H l (ns.map V.int)) (hb : SqT X.K H r (ms.map V.int)) : QR X σ H P scope x u (compareOp .Lt) (.ref l) (.ref r) (.bl (HT.lexLt ns ms)) := fun cenv A' E' s m v w F r1 r2 => by
  cases r1
  cases r2
  obtain ⟨its, r1, p1, _⟩ := F.tuple hT ha
  obtain ⟨its2, r2, p2, _⟩ := F.tuple hT hb
  have i1 : IntsAre its.toArray.toList ns := intsAre_of r1
  have i2 : IntsAre its2.toArray.toList ms := intsAre_of r2
  exact HT.lt_tupInts p1 p2 i1 i2 (Nat.lt_of_le_of_lt F.un hu) ⟨rfl, kp_refl _⟩
theorem qr_lt_int {i j : Int} : QR X σ H P scope x u (compareOp .Lt) (.int i) (.int j) (.bl (decide (i < j))) := fun cenv A' E' s m v w F r1 r2 => by
  obtain ⟨t, rfl⟩ := r1
  obtain ⟨t', rfl⟩ := r2
  exact lt_int ⟨rfl, kp_refl _⟩
theorem qv_chain {op op' : CmpOp} {f g : Bool} (hr : QR X σ H P scope x u (compareOp op) za zb (.bl f)) (hr' : QR X σ H P scope x u (compareOp op') zb zc (.bl g)) (ha : QV X σ H P scope x u a za) (hb : QV X σ H P scope x u b zb) (hc : QV X σ H P scope x u c zc)
    (hm : lastMarks [op, op'] [b, c] = false := by with_unfolding_all rfl) : QV X σ H P scope x u (.Compare a [op, op'] [b, c] pos) (.bl (f && g)) := fun cenv A' E' s m F => by
  refine Compare_chain (wpAny_mono (ha cenv A' E' s m F) (fun v s1 r1 => chain_link (wpAny_mono (hb cenv A' E' s1 m (F.keeps r1.2)) (fun w s2 r2 => wpAny_mono (hr cenv A' E' s2 m v w ((F.keeps r1.2).keeps r2.2) r1.1 r2.1) (fun d s3 r3 => ?_) fun _ _ e => e) fun _ _ e => e)) fun _ _ e => e) hm
  obtain ⟨rfl, k3⟩ := r3
  have k := kp_trans (kp_trans r1.2 r2.2) k3
  refine wpAny_truthy_bool ?_
  cases f with
  | false => exact ite_ff ⟨rfl, k⟩
  | true => exact ite_tt (chain_last (wpAny_mono (hc cenv A' E' s3 m (F.keeps k)) (fun y s4 r4 => wpAny_mono (hr' cenv A' E' s4 m w y ((F.keeps k).keeps r4.2) r2.1 r4.1) (fun e s5 r5 => ⟨r5.1, kp_trans (kp_trans k r4.2) r5.2⟩) fun _ _ e => e) fun _ _ e => e))
/-- an own def of one argument, a pair that it unpacks; it returns one test of each part -/
theorem qv_call2 {nm pn qual ya yb : Str} {st : Stmt} {f : Addr} {fd : FuncData} {N : List Str} {e1 e2 : Expr} {py1 py2 tp np ap bp rp : Pos} {kt k : Nat} {t : Addr} {v1 v2 : V} {c1 c2 : Bool} (hr : Room k X.A) (hT : Tab H P) (hk : scope.kind = .function) (hl : scope.names.lookup nm = some .globalImplicit) (hm : X.mg nm = some (.ref f)) (F : Fun X.K nm qual st f fd)
    (hbody : defBody st = [.Assign [.Tuple [.Name ya py1, .Name yb py2] kt tp] (.Name pn np) ap, .Return (some (.BoolOp .And [e1, e2] bp)) rp]) (S : FnScope N [pn] (defScope st)) (hloc : (defScope st).names.lookup pn = some .local) (hla : (defScope st).names.lookup ya = some .local) (hlb : (defScope st).names.lookup yb = some .local) (hab : ya ≠ yb)
    (hb : Binds X.K fd [pn] []) (ha : QV X σ H P scope x u a (.ref t)) (ht : SqT X.K H t [v1, v2])
    (h1 : ∀ (A0 : Around) (v : Value), RelV v1 v → QV { X with A := A0 } σ H P (defScope st) ya v e1 (.bl c1)) (h2 : ∀ (A0 : Around) (v : Value), RelV v2 v → QV { X with A := A0 } σ H P (defScope st) yb v e2 (.bl c2))
    (hs : ∀ env, starEach [a] env = (false, eval a env) :: starEach [] env := by intro _; rfl) (hd : (nm == ("__debug__" : Str)) = false := by decide) (hdp : (pn == ("__debug__" : Str)) = false := by decide) :
    QV X σ H P scope x u (.Call (.Name nm p) [a] [] pos) (.bl (c1 && c2)) := fun cenv A' E' s m Fc0 => by
  refine wpAny_Call_Name_kw (Calls.Name_function_global (by rw [Fc0.sc]; exact hk) (show cenv.scope.names.lookup nm = some .globalImplicit by rw [Fc0.sc]; exact hl) (Calls.loadGlobal_global (by rw [Fc0.gl]; exact Fc0.md.glob.keeps Fc0.base) hm ?_) hd)
  refine PySem.W.callWith_K (h₀ := X.base) Fc0.md.kin F.kp ?_ (hs cenv) (by rfl)
  rw [hs cenv]
  show wpAny _ _ (spliced ((false, eval a cenv) :: [])) _ _ s
  refine Calls.spliced_cons (wpAny_mono (ha cenv A' E' s m Fc0) (fun v s1 r1 => Calls.spliced_nil ?_) fun _ _ e => e)
  have F1 := Fc0.keeps r1.2
  refine ⟨F1.kin, ?_⟩
  obtain ⟨oc, od, kV, doc, pm, an, cdv, ct, osl, rfl, lk, hcd⟩ := F.ex
  have rv := r1.1
  refine wpAny_call (Att.call_fn (binds := [(pn, v)]) F1.kin (F1.md.nolimit.keeps F1.base) lk hcd (by have := hr.dp; have := Fc0.dp; omega) (hb s1 [v] F1.kin rfl) ?_ (fun s2 IC => ?_) S.co S.gen S.kind)
  · simp only [List.all_cons, List.all_nil, Bool.and_true, Bool.or_eq_true, beq_iff_eq]
    exact .inl hloc
  · obtain ⟨h2', tk2, rfl⟩ := IC.toInCall.same
    have kk : ∀ b o, s1.heap.get? b = some o → h2'.get? b = some o := IC.toInCall.keep
    rw [hbody]
    have Fn : Fc { X with A := A' } σ H P (defScope st) pn v (envOfC qual (defScope st) s1.heap.objs.size f cdv) (A'.deeper (envOfC qual (defScope st) s1.heap.objs.size f cdv)) { s1 with heap := h2', toks := tk2 } _ :=
      ⟨Fc0.hd, Nat.le_refl _, by show A'.units + 3 ≤ A'.units + 8; omega, rfl, rfl, rfl, IC.toInCall.ns, by
        show bindL _ [(pn, v)] _ pn = some v
        unfold bindL
        have hkd : (envOfC qual (defScope st) s1.heap.objs.size f cdv).kindOf pn = some .local := hloc
        rw [hkd]
        simp [bindL], fun b o e => kk b o (F1.base b o e), F1.md, F1.hok.kept kk, fun i y w h1 h2 h3 h4 => absurd rfl (S.nofree (y, .free) (lookup_mem' h4))⟩
    cases rv
    obtain ⟨its, ri, tup, _⟩ := Fn.tuple hT ht
    cases ri with
    | cons ra rr =>
      rename_i w1 wr
      cases rr with
      | cons rb rn =>
        rename_i w2 wn
        cases rn
        refine wpAny_execs_cons (Assign_Tuple (wpAny_mono (qv_x (X := { X with A := A' }) S.kind hloc (show RelV (.ref t) (.ref t) from rfl) hdp _ _ _ _ _ Fn) (fun y s3 r3 => ?_) fun _ _ e => e))
        obtain ⟨ry, h3, tk3, rfl, k3⟩ := r3
        cases ry
        refine assign_Tuple_tuple Fn.hd (tup.keeps k3) (by rfl) (by rfl) fun h4 hx4 => ?_
        have kL : ∀ b o, s1.heap.get? b = some o → b ≠ s1.heap.objs.size := fun b o e => Nat.ne_of_lt (Heap.lt_size e)
        have kx : ∀ b o, h3.get? b = some o → h4.get? b = some o := fun b o e => hx4 b o (Nat.ne_of_lt (Heap.lt_size e)) e
        have n4 := ((Fn.keeps ⟨h3, tk3, rfl, k3⟩).keeps (s₃ := { s1 with heap := h4, toks := tk3 }) ⟨h4, tk3, rfl, kx⟩).ns
        refine assignInOrder_cons (assign_Name (wpAny_storeName_local hla n4 (fun h5 n5 b5 => ?_) (by simp [envOfC, S.kind])))
        refine assignInOrder_cons (assign_Name (wpAny_storeName_local hlb n5 (fun h6 n6 b6 => ?_) (by simp [envOfC, S.kind])))
        refine assignInOrder_nil ?_
        have k6 : ∀ b o, s1.heap.get? b = some o → h6.get? b = some o := fun b o e => b6.extBut b o (kL b o e) (b5.extBut b o (kL b o e) (kx b o (k3 b o (kk b o e))))
        have FF : ∀ (y : Str) (w : Value), (if y = yb then some w2 else if y = ya then some w1 else none) = some w → Fc { X with A := A' } σ H P (defScope st) y w (envOfC qual (defScope st) s1.heap.objs.size f cdv) (A'.deeper (envOfC qual (defScope st) s1.heap.objs.size f cdv)) { s1 with heap := h6, toks := tk3 + 1 + 1 } _ := fun y w e => by
          refine ⟨Fc0.hd, Nat.le_refl _, (by show A'.units + 3 ≤ A'.units + 8; omega), rfl, rfl, rfl, n6, ?_, fun b o e => k6 b o (F1.base b o e), F1.md, F1.hok.kept k6, fun i y w h1 h2 h3 h4 => absurd rfl (S.nofree (y, .free) (lookup_mem' h4))⟩
          show (if y = yb then some w2 else if y = ya then some w1 else _) = some w
          by_cases q1 : y = yb
          · rw [if_pos q1] at e ⊢
            exact e
          · rw [if_neg q1] at e ⊢
            by_cases q2 : y = ya
            · rw [if_pos q2] at e ⊢
              exact e
            · rw [if_neg q2] at e
              cases e
        refine wpAny_execs_cons (wpAny_Return_some (BoolOp_and (wpAny_mono (h1 A' w1 ra _ _ _ _ _ (FF ya w1 (by rw [if_neg hab, if_pos rfl]))) (fun y s7 r7 => ?_) fun _ _ e => e)))
        obtain ⟨rfl, k7⟩ := r7
        refine wpAny_truthy_bool ?_
        have kA := kp_trans r1.2 (kp_trans (s1 := { s1 with heap := h6, toks := tk3 + 1 + 1 }) ⟨h6, _, rfl, k6⟩ k7)
        cases c1 with
        | true => exact BoolOp_one (wpAny_mono (h2 A' w2 rb _ _ _ _ _ ((FF yb w2 (if_pos rfl)).keeps k7)) (fun y s8 r8 => ⟨r8.1, kp_trans kA r8.2⟩) fun _ _ e => e)
        | false => exact ⟨rfl, kA⟩
end
/-! ### a list of pairs is walked -/
def SrcT (K : PySem.W.Frag) (H : Hp) (v : V) (n : Nat) (xs : Nat → V) : Prop := ∃ (a : Addr) (l : List V), v = .ref a ∧ SqL K H a l ∧ n = l.length ∧ ∀ i, i < n → ∃ (T : Addr) (y : V), l[i]? = some (.ref T) ∧ SqT K H T [y, xs i]
section
variable {X : Cx} {pins : List (Addr × Obj)} {σ : L2.St} {H : Hp} {s : Shared}
theorem src_iterT {v : V} {xv : Value} {n : Nat} {xs : Nat → V} {P : Addr} {Q : Value → Shared → Prop} {E : Value → Shared → Prop} (S : SrcT X.K H v n xs) (I : Inv X pins σ H s) (r : RelV v xv) (hT : Tab H P)
    (h : ∀ (o : Obj) (fp : List Addr) (Pf : Nat → Array Value → Prop) (St : Nat → Heap → Prop) (Mid : Nat → Addr → Heap → Prop), (∀ i va vb, Pf i #[va, vb] → i < n ∧ RelV (xs i) vb) → (∀ A' : Around, A'.handled = none → WalksU X.prog X.w A' s.heap.objs.size fp [s.heap.objs.size] n Pf St Mid) → (∀ i vals, Pf i vals → ∃ va vb, vals = #[va, vb]) →
      St 0 (s.heap.push o) → (∀ b ∈ fp, b ≤ s.heap.objs.size ∧ b ≠ P) → Q (.ref s.heap.objs.size) { s with heap := s.heap.push o }) : wpAny (model X.prog X.w) X.A (pyIter xv) Q E s := by
  have Plt : P < s.heap.objs.size := Heap.lt_size (hT.of_ok I.hok).choose_spec.1
  have szP : s.heap.objs.size ≠ P := fun z => Nat.lt_irrefl _ (z ▸ Plt : s.heap.objs.size < s.heap.objs.size)
  obtain ⟨a, l, rfl, hl, rfl, hx⟩ := S
  cases r
  obtain ⟨its, rv, pl, _⟩ := I.list hl
  have hal : a < s.heap.objs.size := let ⟨_, e, _⟩ := pl.isList; Heap.lt_size e
  have naP : a ≠ P := fun e => by
    obtain ⟨ps, e1, _⟩ := hT.of_ok I.hok
    obtain ⟨o, n, e2, e3, _, e4⟩ := pl
    rw [e, e1] at e2
    cases e2
    cases e3
  have hne : a ≠ s.heap.objs.size := Nat.ne_of_lt hal
  have en : its.toArray.size = l.length := by rw [List.size_toArray]; exact rv.length.symm
  have ev : ∀ i : Nat, ∃ (T : Addr) (va vb : Value), i < l.length → its.toArray[i]? = some (.ref T) ∧ IsTup s.heap T #[va, vb] ∧ RelV (xs i) vb := fun i => by
    by_cases hi : i < l.length
    · obtain ⟨T, y, e1, e2⟩ := hx i hi
      obtain ⟨w, ew, rw'⟩ := rv.get e1
      cases rw'
      obtain ⟨js, rj, tj, _⟩ := I.tuple e2
      cases rj with
      | cons ra rr =>
        rename_i w1 wr
        cases rr with
        | cons rb rn =>
          rename_i w2 wn
          cases rn
          exact ⟨T, w1, w2, fun _ => ⟨by simpa using ew, tj, rb⟩⟩
    · exact ⟨0, .none, .none, fun h => absurd h hi⟩
  refine wpAny_pyIter_list pl.isList ?_
  let Ts : Nat → Addr := fun i => (ev i).choose
  let va : Nat → Value := fun i => (ev i).choose_spec.choose
  let vb : Nat → Value := fun i => (ev i).choose_spec.choose_spec.choose
  have sp : ∀ i, i < l.length → its.toArray[i]? = some (.ref (Ts i)) ∧ IsTup s.heap (Ts i) #[va i, vb i] ∧ RelV (xs i) (vb i) := fun i => (ev i).choose_spec.choose_spec.choose_spec
  have tlt : ∀ i, i < l.length → Ts i < s.heap.objs.size := fun i hi => (sp i hi).2.1.lt
  have tnP : ∀ i, i < l.length → Ts i ≠ P := fun i hi e => by
    obtain ⟨ps, e1, _⟩ := hT.of_ok I.hok
    obtain ⟨o, e2, e3, _⟩ := (sp i hi).2.1
    rw [e, e1] at e2
    cases e2
    cases e3
  refine h _ (s.heap.objs.size :: a :: (List.range its.toArray.size).map Ts) (fun j v => j < l.length ∧ v = #[va j, vb j]) (fun j h => h.IsListIter s.heap.objs.size a j ∧ h.IsList a its.toArray ∧ ∀ k, k < its.toArray.size → h.IsTuple (Ts k) #[va k, vb k]) (fun j T h => (j < its.toArray.size ∧ T = Ts j) ∧ h.IsListIter s.heap.objs.size a (j + 1) ∧ h.IsList a its.toArray ∧ ∀ k, k < its.toArray.size → h.IsTuple (Ts k) #[va k, vb k]) (fun i wa wb hp => ?_) (fun A' hA => ?_) (fun i vals hp => ⟨_, _, hp.2⟩) ⟨⟨_, Heap.get?_push_size _ rfl, rfl, rfl⟩, pl.isList.at fun o e => Heap.get?_push_of_some _ e, fun k hk => ?_⟩ fun b hb => ?_
  · obtain ⟨hi, e⟩ := hp
    have e2 : wb = vb i := (by simpa using congrArg Array.toList e : wa = va i ∧ wb = vb i).2
    rw [e2]
    exact ⟨hi, (sp i hi).2.2⟩
  · have W := WalksU.listOfTuples (prog := X.prog) (w := X.w) hA s.heap.objs.size a hne its.toArray Ts (fun i => #[va i, vb i]) (fun j hj => (sp j (by rw [← en]; exact hj)).1) (fun j hj => Nat.ne_of_lt (tlt j (by rw [← en]; exact hj)))
    rw [← en]
    exact ⟨W.sub, W.frame, fun i s Q E hi st hQ => W.item i s Q E hi st fun T vals h' tk hv => hQ T vals h' tk ⟨hi, hv⟩, W.go, W.apart, W.done, W.self⟩
  · exact Heap.IsTuple.at ((sp k (by rw [← en]; exact hk)).2.1) fun o e => Heap.get?_push_of_some _ e
  · rcases List.mem_cons.mp hb with e | hb
    · rw [e]
      exact ⟨Nat.le_refl _, szP⟩
    · rcases List.mem_cons.mp hb with e | hb
      · rw [e]
        exact ⟨Nat.le_of_lt hal, naP⟩
      · obtain ⟨i, hi, rfl⟩ := List.mem_map.mp hb
        have hi' : i < l.length := by rw [← en]; exact List.mem_range.mp hi
        exact ⟨Nat.le_of_lt (tlt i hi'), tnP i hi'⟩
theorem gen_makeT {c P : Addr} {elt iter : Expr} {xa x : Str} {pa px pt gpos : Pos} {kt : Nat} {scope : Scope} {te : TE} {k : Nat} {Q' : Value → Shared → Prop} {R : Nat → (Nat → Bool) → Hp → Prop}
    (hr : Room k X.A) (TB : LamX.TabB X.base X.mg c P) (hcode : X.env.code = .ref c) (S : GxR.GenS X.env scope x) (hxa : scope.names.lookup xa = some .local) (hab : xa ≠ x) (hi : PE X iter te) (hs : ∀ v, genFold iter X.env v = pure v) (I : Inv X pins σ H s)
    (h : te σ H fun v H1 => Tab H1 P ∧ ∃ (n : Nat) (xs : Nat → V) (f : Nat → Bool), SrcT X.K H1 v n xs ∧ (∀ i u, i < n → RelV (xs i) u → QV X σ H1 P scope x u elt (.bl (f i))) ∧ R n f H1)
    (hQ : ∀ n f H1 g s5, R n f H1 → RdyG X pins σ H1 n f g s5 → Q' (.ref g) s5) :
    wpAny (model X.prog X.w) X.A (eval (.GeneratorExp elt [⟨.Tuple [.Name xa pa, .Name x px] kt pt, iter, [], 0⟩] scope gpos) X.env) Q' X.xe s := by
  refine wpAny_GeneratorExp_walksQTD hr.hd S.co (closure_ok S.free) S.cell S.dot hxa S.loc hab S.kind hr.depth ?_ hs
  refine thn (hi.run pins s σ H _ I h) fun xv s1 ⟨v, H1, I1, r1, hT, n, xs, f, hsrc, hel, hR⟩ => ?_
  refine src_iterT hsrc I1 r1 hT fun o fp Pf St Mid hPf hW hsz2 hst hfp => ?_
  obtain ⟨ps, hPs, ht⟩ := hT.of_ok I1.hok
  have hPlt : P < s1.heap.objs.size := Heap.lt_size hPs
  have hP2 : (s1.heap.push o).get? P = some { cls := .none, data := .fields ps } := Heap.get?_push_of_some _ hPs
  have cd : PySem.W.CodeHd (s1.heap.push o) c P := TB.code.keeps fun b u e => Heap.get?_push_of_some _ (I1.bk b u e)
  have lim2 : (s1.heap.push o).NoLimit := I1.nolimit.push o
  have hcP : cStatics ≠ P := fun e => by
    obtain ⟨_, ⟨o', es, ep, ho, hd, _⟩, _⟩ := I1.nolimit
    rw [e, hPs] at ho
    cases ho
    cases hd
  have hcl : cStatics < s1.heap.objs.size := let ⟨_, hns, _⟩ := I1.nolimit; hns.lt
  have sz2 : (s1.heap.push o).objs.size = s1.heap.objs.size + 1 := Heap.size_push ..
  have nTb : ∀ b, H1 b = none → b ≠ P := fun b e z => by
    rw [z, hT] at e
    cases e
  -- what is left once the code object is known
  have go : ∀ (code : Value) (h3 : Heap) (tk : Nat) (ps' : Array Value), Heap.ExtBut P (s1.heap.push o) h3 → (s1.heap.push o).objs.size ≤ h3.objs.size → h3.get? P = some { cls := .none, data := .fields ps' } → TriplesOk ps'.toList →
      wpAny (model X.prog X.w) X.A (builtinsFor X.env.globals X.env.builtins) (fun bi s₄ => ∃ I fp wr n₀ Pg St₀ Mid pz F, Value.ref s1.heap.objs.size = .ref I ∧ (∀ A' : Around, A'.handled = none → WalksU X.prog X.w A' I fp wr n₀ Pg St₀ Mid) ∧ (∀ i vals, Pg i vals → ∃ va vb, vals = #[va, vb]) ∧ St₀ 0 s₄.heap ∧ (∀ b ∈ fp, b < s₄.heap.objs.size) ∧ s₄.heap.NoLimit ∧ cStatics ∉ wr ∧
          (∀ href : Heap, (∀ b o, s₄.heap.get? b = some o → href.get? b = some o) → QuietGenTD X.prog X.w (genEnv scope (cloFrom X.env.cells scope.names []) s₄.heap.objs.size code bi X.env) xa x [] elt (List.range s₄.heap.objs.size) wr Pg pz F href (X.A.depth + 1) (X.A.units + 8)) ∧
          (∀ a h₅ tk gs, gs.bare = true → s₄.heap.objs.size < a → h₅.objs.size = a + 1 → (∀ b o, s₄.heap.get? b = some o → h₅.get? b = some o) →
            WalksS X.prog X.w X.A.in4 a (a :: s₄.heap.objs.size :: List.range s₄.heap.objs.size) (s₄.heap.objs.size :: wr) (GenOnlyQ s₄.gens.size) (passing pz n₀ 0).length (fun j y => ∃ i, (passing pz n₀ 0)[j]? = some i ∧ F i y) (GenAt X.prog X.w X.A.in4 a s₄.gens.size s₄.heap.objs.size (List.range s₄.heap.objs.size) wr pz n₀ F) →
            GenAt X.prog X.w X.A.in4 a s₄.gens.size s₄.heap.objs.size (List.range s₄.heap.objs.size) wr pz n₀ F 0 { s₄ with gens := s₄.gens.push gs, toks := tk, heap := h₅ } →
            Q' (.ref a) { s₄ with gens := s₄.gens.push gs, toks := tk, heap := h₅ })) X.xe { s1 with heap := h3, toks := tk } := by
    intro code h3 tk ps' hx hsz hP3 ht3
    obtain ⟨bm, ob, e1, e2, e3, e4, e5, e6, e7, e8⟩ := TB.bm
    have keep3 : ∀ b u, b ≠ P → s1.heap.get? b = some u → h3.get? b = some u := fun b u hb e => hx b u hb (Heap.get?_push_of_some _ e)
    refine wpAny_builtinsFor (m := X.mg) (by rw [I1.ok.glob]; exact ((I1.mod.glob.keeps I1.bk).push o).extBut hx TB.gP) e1 e2 (keep3 _ _ e4 (I1.bk _ _ e5)) e6 e7 e8 ?_
    have hsz3 : s1.heap.objs.size < h3.objs.size := by omega
    refine ⟨s1.heap.objs.size, fp, [s1.heap.objs.size], n, Pf, St, Mid, fun _ => true, fun i y => y = .bool (f i), rfl, hW, hsz2, ?_, fun b hb => Nat.lt_of_le_of_lt (hfp b hb).1 hsz3, lim2.extBut hx hcP, ?_, ?_, ?_⟩
    · exact (hW X.A hr.hd).frame _ _ _ hst fun b hb u e => hx b u (hfp b hb).2 e
    · intro z
      rw [List.mem_singleton.mp z] at hcl
      exact Nat.lt_irrefl _ hcl
    · intro href hhref
      refine ⟨fun A' E' i va v s₂ m₂ hA hD hU hPv hn hma hm hk => ?_, fun A' E' i va v s₂ m₂ hA hD hU hPv hp hn hma hm hk => ?_⟩
      · simp only [List.forIn_nil]
        exact wpAny_pure ⟨rfl, kp_refl _⟩
      · have kept : ∀ b u, b ≠ P → s1.heap.get? b = some u → s₂.heap.get? b = some u := fun b u hb e => by
          have hlt := Heap.lt_size e
          refine hk b (List.mem_range.mpr ?_) (fun z => ?_) u (hhref b u (keep3 b u hb e))
          · show b < h3.objs.size
            exact Nat.lt_trans hlt hsz3
          · rw [List.mem_singleton.mp z] at hlt
            exact Nat.lt_irrefl _ hlt
        refine wpAny_mono (hel i v (hPf i va v hPv).1 (hPf i va v hPv).2 _ A' E' s₂ m₂ ⟨hA, hD, hU, rfl, I1.ok.glob, rfl, hn, hm, fun b u e => kept b u (nTb b (I1.bs b u e).2) (I1.bk b u e), I1.mod, fun b u e => ?_, fun j y w hN hσ hv hfr => ?_⟩) (fun y s3 r => ⟨r.1, r.2⟩) fun _ _ e => e
        · have hb : b ≠ P := fun z => by
            rw [z] at e
            unfold but at e
            rw [if_pos rfl] at e
            cases e
          rw [but_ne hb] at e
          refine (I1.hok b u e).stay (fun d w hd q => kept d w ?_ q) (fun d q => ?_) fun d ys q => ?_
          · rcases hd with z | z
            · rw [z]
              exact hb
            · intro e2
              rw [e2, hT] at z
              cases z
          · rw [but_ne fun e2 => by rw [e2, hT] at q; cases q]
            exact q
          · rw [but_ne fun e2 => by rw [e2, hT] at q; cases q]
            exact q
        · obtain ⟨m, hn1, hl⟩ := I1.loc
          obtain ⟨r, rv, l⟩ := hl j y w hN hσ (hv.elim (fun z => Or.inr (Or.inl z)) (fun z => Or.inr (Or.inr z)))
          rcases l with ⟨z, _⟩ | ⟨_, cc, hc, oc, he, hd⟩
          · rcases hv with z2 | z2
            · rw [z] at z2; cases z2
            · rw [z] at z2; cases z2
          · exact ⟨r, cc, rv, clo_lookup (lookup_mem' hfr) hc, oc, kept cc oc (nTb cc (I1.freeC y cc hc)) he, hd⟩
    · intro g h5 tk5 gs hgb hag hsz5 hk5 W5 hat
      simp only [GxR.passing_true, List.length_range] at W5
      refine hQ n f H1 g _ hR ⟨_, _, _, _, _, W5.in4_1, hat, fun j y sj Qj Ej hy hQj => ?_, fun s' hm => ?_⟩
      · obtain ⟨i, hij, rfl⟩ := hy
        obtain ⟨hj, ej⟩ := List.getElem?_eq_some_iff.mp hij
        rw [List.getElem_range] at ej
        subst ej
        exact wpAny_truthy_bool hQj
      · have nwr : ∀ b u, s1.heap.get? b = some u → b ∉ h3.objs.size :: [s1.heap.objs.size] := fun b u e hb => by
          have hl := Heap.lt_size e
          rcases List.mem_cons.mp hb with z | z
          · rw [z] at hl
            exact Nat.lt_irrefl _ (Nat.lt_trans hl hsz3)
          · rw [List.mem_singleton.mp z] at hl
            exact Nat.lt_irrefl _ hl
        exact inv_grown I1 hT (fun b u hb e => hm.heap b u (nwr b u e) (hk5 b u (keep3 b u hb e))) ⟨ps', hm.heap P _ (nwr P _ hPs) (hk5 P _ hP3), ht3⟩ hm.os (AllBare.movedS (I1.bare.push hgb) hm)
  refine ⟨lim2, ?_⟩
  cases hf : codeAmong gpos ps.toList with
  | some cv => exact wpAny_genexprCode_hit hcode (cd.code hP2 ht) hf (go cv (s1.heap.push o) s1.toks ps (Heap.ExtBut.refl _ _) (Nat.le_refl _) hP2 ht)
  | none =>
    refine wpAny_genexprCodeX hcode (cd.code hP2 ht) (cd.tab hP2) hf fun c' h' tk hx hge hlt hco' _ htab' _ => ?_
    obtain ⟨_, _, _, _, _, _, _, _, _, _, _, _, _, _, _, _, _, _, _, htr, _⟩ := hco'
    exact go _ h' tk _ hx (Nat.le_trans hge (Nat.le_of_lt hlt)) htab'.2 htr
def tGenT (X : Cx) (P : Addr) (scope : Scope) (x : Str) (elt : Expr) (fin : Nat → (Nat → Bool) → Bool) (te : TE) : TE := fun σ H Q => te σ H fun v H1 => Tab H1 P ∧ ∃ (n : Nat) (xs : Nat → V) (f : Nat → Bool), SrcT X.K H1 v n xs ∧ (∀ i u, i < n → RelV (xs i) u → QV X σ H1 P scope x u elt (.bl (f i))) ∧ Q (.bl (fin n f)) H1
theorem pe_allT {c P : Addr} {elt iter : Expr} {xa x : Str} {pa px pt p pos gpos : Pos} {kt : Nat} {scope : Scope} {te : TE} {k : Nat} (hr : Room k X.A) (hg : Gl X "all") (hm : X.mg "all" = none) (hb : bootBuiltins "all" = some (.builtin "all")) (TB : LamX.TabB X.base X.mg c P) (hcode : X.env.code = .ref c) (S : GxR.GenS X.env scope x) (hxa : scope.names.lookup xa = some .local) (hab : xa ≠ x)
    (hi : PE X iter te) (hs : ∀ v, genFold iter X.env v = pure v)
    (he : starEach [.GeneratorExp elt [⟨.Tuple [.Name xa pa, .Name x px] kt pt, iter, [], 0⟩] scope gpos] X.env = (false, eval (.GeneratorExp elt [⟨.Tuple [.Name xa pa, .Name x px] kt pt, iter, [], 0⟩] scope gpos) X.env) :: starEach [] X.env := by rfl) :
    PE X (.Call (.Name "all" p) [.GeneratorExp elt [⟨.Tuple [.Name xa pa, .Name x px] kt pt, iter, [], 0⟩] scope gpos] [] pos) (tGenT X P scope x elt allF te) := by
  refine ⟨fun pins s σ H Q I h => wpAny_Call_Name_kw (ld_blt I hg hm hb (PyProof.Rows.callWith_builtin1 ?_ he (by rfl)))⟩
  rw [he]
  show wpAny _ _ (spliced ((false, eval (.GeneratorExp elt [⟨.Tuple [.Name xa pa, .Name x px] kt pt, iter, [], 0⟩] scope gpos) X.env) :: backTo pos (starEach [] X.env))) _ _ s
  refine Calls.spliced_cons (gen_makeT (R := fun n f H1 => Q (.bl (allF n f)) H1) hr TB hcode S hxa hab hi hs I h fun n f H1 g s5 hR ⟨fp, wr, G, F, St₁, W, hst, htr, hI⟩ => Calls.spliced_nil ?_)
  exact call_all_walkS (W.self 0 _ _ _ hst ⟨g, fp, wr, G, _, F, St₁, _, rfl, W, hst, htr, fun s' hmv => ⟨.bl _, H1, hI s' hmv, rfl, hR⟩⟩)
end
section
variable {X : Cx}
theorem cr_range1 : CallR X (.type "range") (fun vs H Q => ∃ i, vs = [V.int i] ∧ ∀ p, H p = none → Q (.ref p) (upd H p (.rng 0 i))) := by
  intro pins s σ H vs us Q I r h
  obtain ⟨i, rfl, q⟩ := h
  cases r with
  | cons ri rn =>
    cases rn
    obtain ⟨t, rfl⟩ := ri
    refine call_range_1 ⟨.ref s.heap.objs.size, upd H s.heap.objs.size (.rng 0 i), I.laid (t' := _) (fun b o e => Heap.get?_push_of_some _ e) (Nat.le_refl _) ?_, rfl, q _ (I.hok.fresh (Nat.le_refl _))⟩
    exact ⟨_, _, _, Heap.get?_push_size _ rfl⟩
end
section
variable {K : PySem.W.Frag} {σ : L2.St} {H : Hp} {ta tb tc te : TE}
theorem ev_chain {f g : Int → Int → Bool} {i j k : Int} (ha : Ev ta σ H (.int i)) (hb : Ev tb σ H (.int j)) (hc : Ev tc σ H (.int k)) : Ev (tChain (rI0 fun i j => .bl (f i j)) (rI0 fun i j => .bl (g i j)) ta tb tc) σ H (.bl (f i j && g j k)) := fun H1 e Q q =>
  ha H1 e _ fun H2 e2 => hb H2 (e.trans e2) _ fun H3 e3 => ⟨i, j, rfl, rfl, f i j, rfl, by
    cases hf : f i j with
    | true =>
      rw [if_pos rfl]
      refine hc H3 ((e.trans e2).trans e3) _ fun H4 e4 => ⟨j, k, rfl, rfl, ?_⟩
      have := q H4 ((e2.trans e3).trans e4)
      rw [hf] at this
      exact this
    | false =>
      rw [if_neg Bool.false_ne_true]
      have := q H3 (e2.trans e3)
      rw [hf] at this
      exact this⟩
variable {X : Cx} {P : Addr} {scope : Scope} {x : Str} {elt : Expr} {fin : Nat → (Nat → Bool) → Bool}
/-- a generator expression over range(n) -/
theorem ev_genR {n : Int} {f : Nat → Bool} (h : Ev te σ H (.int n)) (hb : -(2 ^ 62) ≤ n ∧ n < 2 ^ 62) (hT : Tab H P) (he : ∀ H1, Ex H H1 → ∀ (i : Nat) u, (i : Int) < n → RelV (.int (i : Int)) u → QV X σ H1 P scope x u elt (.bl (f i))) :
    Ev (tGen X P scope x elt fin (tCB (fun vs H Q => ∃ i, vs = [V.int i] ∧ ∀ p, H p = none → Q (.ref p) (upd H p (.rng 0 i))) (tCons te tNil))) σ H (.bl (fin n.toNat f)) := fun H1 e Q q =>
  h H1 e _ fun H2 e2 => ⟨n, rfl, fun p hp => by
    have e3 := Ex.new (o := HO.rng 0 n) hp
    refine ⟨((hT.mono e).mono e2).mono e3, n.toNat, fun i => .int (0 + (i : Int)), f, .inr (.inr ⟨p, 0, n, rfl, upd_same, by rw [Int.sub_zero], by decide, by decide, hb.1, hb.2, fun i => rfl⟩), fun i u hi hu => he _ ((e.trans e2).trans e3) i u (by omega) (by have hu2 : RelV (.int (0 + (i : Int))) u := hu; rw [Int.zero_add] at hu2; exact hu2), q _ (e2.trans e3)⟩⟩
/-- a generator expression over a new list -/
theorem ev_genL {xs : List V} {f : Nat → Bool} (h : EvL te σ H xs) (hT : Tab H P) (he : ∀ H1, Ex H H1 → ∀ i u, i < xs.length → RelV (xs.getD i .non) u → QV X σ H1 P scope x u elt (.bl (f i))) :
    Ev (tGen X P scope x elt fin te) σ H (.bl (fin xs.length f)) := fun H1 e Q q =>
  h H1 e _ fun p H2 hp e2 h2 => ⟨hT.mono (e.trans e2), xs.length, fun i => xs.getD i .non, f, .inl ⟨p, xs, rfl, sq_of h2, rfl, fun i => rfl⟩, fun i u hi hu => he H2 (e.trans e2) i u hi hu, q H2 e2⟩
/-- over a list of pairs -/
theorem ev_genT {v : V} {n : Nat} {xs : Nat → V} {f : Nat → Bool} (h : Ev te σ H v) (hT : Tab H P) (hs : ∀ H1, Ex H H1 → SrcT X.K H1 v n xs) (he : ∀ H1, Ex H H1 → ∀ i u, i < n → RelV (xs i) u → QV X σ H1 P scope x u elt (.bl (f i))) :
    Ev (tGenT X P scope x elt fin te) σ H (.bl (fin n f)) := fun H1 e Q q => h H1 e _ fun H2 e2 => ⟨hT.mono (e.trans e2), n, xs, f, hs H2 (e.trans e2), he H2 (e.trans e2), q H2 e2⟩
/-- tuple(new list) -/
theorem eu_tupL {xs : List V} (h : EvL te σ H xs) : EvU (tCB (fun zs H Q => ∃ p ys, zs = [.ref p] ∧ ((SqL K H p ys ∧ ∀ l, H l = none → Q (.ref l) (upd H l (.tup ys))) ∨ (SqT K H p ys ∧ Q (.ref p) H))) (tCons te tNil)) σ H xs := fun H1 e Q q =>
  h H1 e _ fun p H2 hp e2 h2 => ⟨p, xs, rfl, .inl ⟨sq_of h2, fun l hl => q l _ (fresh_back e2 hl) (e2.trans (Ex.new hl)) upd_same⟩⟩
end
end LN

set_option Elab.async false
set_option linter.all false
set_option maxRecDepth 100000
set_option maxHeartbeats 4000000
namespace LP
open PySem PySem.Spec PyProof.Rows L2 Evl LT LG LS LX LO
/-! ### comprehensions whose elements are new objects: R i (those before) y heap -/
abbrev Rel := Nat → List V → V → Hp → Prop
def Mon (R : Rel) : Prop := ∀ i xs y H H', Ex H H' → R i xs y H → R i xs y H'
def EvR (te : TE) (σ : L2.St) (H : Hp) (n : Nat) (R : Rel) : Prop := ∀ H1, Ex H H1 → ∀ Q : VK, (∀ L xs H2, H1 L = none → Ex H1 H2 → H2 L = some (.lst xs) → xs.length = n → (∀ i y, xs[i]? = some y → R i (xs.take i) y H2) → Q (.ref L) H2) → te σ H1 Q
theorem but_ex {D : Addr} {H : Hp} : Ex (but D H) H := fun a o h => by
  unfold but at h
  split at h
  · cases h
  · exact h
theorem ex_but {D : Addr} {H H' : Hp} (e : Ex H H') : Ex (but D H) (but D H') := fun a o h => by
  unfold but at h ⊢
  split at h
  · cases h
  · rename_i n
    rw [if_neg n]
    exact e a o h
theorem but_upd {D : Addr} {H : Hp} {o : HO} : but D (upd H D o) = but D H := funext fun a => by
  unfold but
  split
  · rfl
  · rename_i n
    exact upd_ne n
/-- what is new later than D -/
theorem but_new {D l : Addr} {H2 H3 : Hp} {o : HO} (hD : H2 D ≠ none) (hl : H2 l = none) (h : H3 l = some o) : but D H3 l = some o := by
  rw [but_ne (fun e => hD (by rw [← e]; exact hl))]
  exact h
/-- what stood before D -/
theorem but_old {D l : Addr} {H H3 : Hp} {o : HO} (hD : H D = none) (h : H l = some o) (e : Ex H H3) : but D H3 l = some o := by
  rw [but_ne (fun z => by rw [z, hD] at h; cases h)]
  exact e _ _ h
def Cr (H : Hp) (R : Rel) (D : Addr) (i : Nat) (H' : Hp) : Prop := H D = none ∧ Ex H H' ∧ ∃ xs, H' D = some (.lst xs) ∧ xs.length = i ∧ ∀ j y, xs[j]? = some y → R j (xs.take j) y (but D H')
theorem cr_turn {H H' : Hp} {R : Rel} {D : Addr} {i : Nat} {te : TE} {σ2 : L2.St} (mon : Mon R) (p : Cr H R D i H') (hi : i < 50000)
    (he : H' D ≠ none → ∀ xs : List V, xs.length = i → (∀ j y, xs[j]? = some y → R j (xs.take j) y (but D H')) → ∀ Q : VK, (∀ y H3, Ex H' H3 → R i xs y (but D H3) → Q y H3) → te σ2 H' Q) :
    tYes σ2 H' fun b H3 => if b = true then te σ2 H3 fun y H4 => ∃ acc, H4 D = some (.lst acc) ∧ acc.length < sizeLine ∧ Cr H R D (i + 1) (upd H4 D (.lst (acc ++ [y]))) else Cr H R D (i + 1) H3 := by
  obtain ⟨p1, p2, xs, p3, p4, p5⟩ := p
  show te σ2 H' fun y H4 => ∃ acc, H4 D = some (.lst acc) ∧ acc.length < sizeLine ∧ Cr H R D (i + 1) (upd H4 D (.lst (acc ++ [y])))
  refine he (by rw [p3]; exact fun e => by cases e) xs p4 p5 _ fun y H4 e4 r => ⟨xs, e4 _ _ p3, sz_lt (by omega), p1, (p2.trans e4).mut p1, xs ++ [y], upd_same, by simp [p4], fun j z hz => ?_⟩
  rw [but_upd]
  by_cases hj : j < xs.length
  · rw [List.getElem?_append_left hj] at hz
    rw [List.take_append_of_le_length (Nat.le_of_lt hj)]
    exact mon _ _ _ _ _ (ex_but e4) (p5 j z hz)
  · have hj2 : j = xs.length := by
      have := (List.getElem?_eq_some_iff.mp hz).1
      simp at this
      omega
    subst hj2
    rw [List.getElem?_append_right (Nat.le_refl _), Nat.sub_self] at hz
    cases hz
    rw [List.take_left', ← p4] at *
    · rw [p4]; rw [p4] at r; exact r
    · rfl
section
variable {K : PySem.W.Frag} {σ : L2.St} {H : Hp} {R : Rel} {te tl : TE} {vs : List Nat} {j j2 : Nat}
theorem er_R1 {ta : TA} {n : Int} (h : EvA ta σ H [.int n]) (hn : 0 ≤ n ∧ n ≤ 40000) (hw : ∀ x, wipe ((wipe σ vs).set j (some x)) vs = wipe σ vs) (mon : Mon R)
    (he : ∀ (i : Nat) D H1, H D = none → Ex H H1 → H1 D ≠ none → (i : Int) < n → ∀ xs : List V, xs.length = i → (∀ j y, xs[j]? = some y → R j (xs.take j) y (but D H1)) → ∀ Q : VK, (∀ y H3, Ex H1 H3 → R i xs y (but D H3) → Q y H3) → te ((wipe σ vs).set j (some (.int (i : Int)))) H1 Q) :
    EvR (tLc (iRng1 ta) (gName j) tYes te vs) σ H n.toNat R := fun H0 e Q q => h H0 e _ fun H1 e1 => ⟨n, rfl, by omega, by omega, fun Dl hD =>
  lc_range (lo := 0) (n := n.toNat) (Cr H1 R Dl) ⟨hD, Ex.new hD, [], upd_same, rfl, fun j y hy => by simp at hy⟩ (fun i H' hi p => by
    have e0 : (0 : Int) + (i : Int) = (i : Int) := Int.zero_add _
    rw [e0]
    exact ⟨hw _, cr_turn mon p (by omega) (fun h1 xs h2 h3 => he i Dl H' (fresh_back (e.trans e1) hD) ((e.trans e1).trans p.2.1) h1 (by omega) xs h2 h3)⟩)
    (fun H' ⟨p1, p2, xs, p3, p4, p5⟩ => q Dl xs H' (fresh_back e1 p1) (e1.trans p2) p3 p4 fun i y hy => mon _ _ _ _ _ but_ex (p5 i y hy))⟩
theorem er_L {a : Addr} {ys : List V} (h : Ev tl σ H (.ref a)) (hx : SqL K H a ys) (hz : ys.length ≤ 40000) (hw : ∀ x, wipe ((wipe σ vs).set j (some x)) vs = wipe σ vs) (mon : Mon R)
    (he : ∀ (i : Nat) (x : V) D H1, H D = none → Ex H H1 → H1 D ≠ none → ys[i]? = some x → ∀ xs : List V, xs.length = i → (∀ j y, xs[j]? = some y → R j (xs.take j) y (but D H1)) → ∀ Q : VK, (∀ y H3, Ex H1 H3 → R i xs y (but D H3) → Q y H3) → te ((wipe σ vs).set j (some x)) H1 Q) :
    EvR (tLc (iList K tl) (gName j) tYes te vs) σ H ys.length R := fun H0 e Q q => h H0 e _ fun H1 e1 => ⟨a, rfl, ⟨ys, ex_l (e.trans e1) hx⟩, fun Dl hD =>
  lc_list (xs := ys) (Cr H1 R Dl) ⟨hD, Ex.new hD, [], upd_same, rfl, fun j y hy => by simp at hy⟩ (fun i H' _ p => ex_l ((e.trans e1).trans p.2.1) hx)
    (fun i x H' hi p => ⟨hw x, cr_turn mon p (by have := (List.getElem?_eq_some_iff.mp hi).1; omega) (fun h1 xs h2 h3 => he i x Dl H' (fresh_back (e.trans e1) hD) ((e.trans e1).trans p.2.1) h1 hi xs h2 h3)⟩)
    (fun H' ⟨p1, p2, xs, p3, p4, p5⟩ => q Dl xs H' (fresh_back e1 p1) (e1.trans p2) p3 p4 fun i y hy => mon _ _ _ _ _ but_ex (p5 i y hy))⟩
/-- over a list of pairs -/
theorem er_L2 {a : Addr} {ys : List V} (h : Ev tl σ H (.ref a)) (hx : SqL K H a ys) (hz : ys.length ≤ 40000) (hw : ∀ x y, wipe (((wipe σ vs).set j (some x)).set j2 (some y)) vs = wipe σ vs) (mon : Mon R)
    (he : ∀ (i : Nat) (x : V) D H1, H D = none → Ex H H1 → H1 D ≠ none → ys[i]? = some x → ∃ t u v, x = .ref t ∧ SqT K H1 t [u, v] ∧ ∀ xs : List V, xs.length = i → (∀ j y, xs[j]? = some y → R j (xs.take j) y (but D H1)) → ∀ Q : VK, (∀ y H3, Ex H1 H3 → R i xs y (but D H3) → Q y H3) → te (((wipe σ vs).set j (some u)).set j2 (some v)) H1 Q) :
    EvR (tLc (iList K tl) (gTup K 2 (gCons (gName j) (gCons (gName j2) gNil))) tYes te vs) σ H ys.length R := fun H0 e Q q => h H0 e _ fun H1 e1 => ⟨a, rfl, ⟨ys, ex_l (e.trans e1) hx⟩, fun Dl hD =>
  lc_list (xs := ys) (Cr H1 R Dl) ⟨hD, Ex.new hD, [], upd_same, rfl, fun j y hy => by simp at hy⟩ (fun i H' _ p => ex_l ((e.trans e1).trans p.2.1) hx)
    (fun i x H' hi p => by
      have h1 : H' Dl ≠ none := by
        obtain ⟨_, _, xs, p3, _⟩ := p
        rw [p3]
        exact fun e => by cases e
      obtain ⟨t, u, v, rfl, hT, k⟩ := he i x Dl H' (fresh_back (e.trans e1) hD) ((e.trans e1).trans p.2.1) h1 hi
      exact ⟨t, [u, v], rfl, hT, rfl, u, [v], rfl, v, [], rfl, rfl, hw u v, cr_turn mon p (by have := (List.getElem?_eq_some_iff.mp hi).1; omega) fun _ xs' h2 h3 => k xs' h2 h3⟩)
    (fun H' ⟨p1, p2, xs, p3, p4, p5⟩ => q Dl xs H' (fresh_back e1 p1) (e1.trans p2) p3 p4 fun i y hy => mon _ _ _ _ _ but_ex (p5 i y hy))⟩
end
/-! ### a list of known items, new or not -/
def EvF (te : TE) (σ : L2.St) (H : Hp) (xs : List V) : Prop := ∀ H1, Ex H H1 → ∀ Q : VK, (∀ p H2, Ex H1 H2 → H2 p = some (.lst xs) → Q (.ref p) H2) → te σ H1 Q
def fset (f : Nat → List Int) (s : Nat) (v : List Int) : Nat → List Int := fun x => if x = s then v else f x
def Z8 : List Int := [0, 0, 0, 0, 0, 0, 0, 0]
/-- a dict from sectors to lists of words -/
def Dz (H : Hp) (d : Addr) (n : Nat) (f : Nat → List Int) : Prop := ∃ kvs : List (Key × V), H d = some (.dK kvs) ∧ kvs.length ≤ n ∧ ∀ s : Nat, (valV kvs (.inl (s : Int)) = none ∧ f s = Z8) ∨ ∃ l, valV kvs (.inl (s : Int)) = some (.ref l) ∧ H l = some (.lst ((f s).map V.int))
theorem cut_lo (xs : List V) (n : Nat) : cutV xs none (some (n : Int)) = xs.take n := by
  unfold cutV
  rw [HT.sIx_none, HT.sIx_nat, List.drop_zero, Nat.sub_zero, List.take_eq_take_iff]
  omega
theorem cut_hi (xs : List V) (n : Nat) : cutV xs (some (n : Int)) none = xs.drop n := by
  unfold cutV
  rw [HT.sIx_none, HT.sIx_nat, List.take_of_length_le (by rw [List.length_drop]; omega)]
  by_cases h : n ≤ xs.length
  · rw [Nat.min_eq_left h]
  · rw [Nat.min_eq_right (by omega), List.drop_eq_nil_of_le (Nat.le_refl _), List.drop_eq_nil_of_le (by omega)]
section
variable {K : PySem.W.Frag} {σ : L2.St} {H H' : Hp} {ta tb te td tk tx : TE} {v : V} {xs ys : List V} {d : Addr} {n s : Nat} {f : Nat → List Int} {D : Ends} {tz : TS}
theorem el_f (h : EvL te σ H xs) : EvF te σ H xs := fun H1 e Q q => h H1 e Q fun p H2 _ e2 h2 => q p H2 e2 h2
theorem Dz.ex (D : Dz H d n f) (e : Ex H H') : Dz H' d n f := by
  obtain ⟨kvs, h, hl, hs⟩ := D
  exact ⟨kvs, e _ _ h, hl, fun s => (hs s).imp id fun ⟨l, a, b⟩ => ⟨l, a, e _ _ b⟩⟩
theorem Dz.le (D : Dz H d n f) {m : Nat} (h : n ≤ m) : Dz H d m f := by
  obtain ⟨kvs, h1, hl, hs⟩ := D
  exact ⟨kvs, h1, Nat.le_trans hl h, hs⟩
theorem ef_get (hd : Ev td σ H (.ref d)) (hD : Dz H d n f) (hk : Ev tk σ H (.int (s : Int))) (hx : EvL tx σ H (Z8.map V.int)) : EvF (tDGet2 td tk tx) σ H ((f s).map V.int) := fun H1 e Q q => by
  obtain ⟨kvs, h, _, hs⟩ := hD
  refine hd H1 e _ fun H2 e2 => ⟨d, rfl, .inl ⟨kvs, .inl (e2 _ _ (e _ _ h))⟩, hk H2 (e.trans e2) _ fun H3 e3 => hx H3 ((e.trans e2).trans e3) _ fun p H4 hp e4 h4 => ?_⟩
  have e14 := (e2.trans e3).trans e4
  rcases hs s with ⟨hn, hf⟩ | ⟨l, hv, hl⟩
  · refine ⟨none, ?_, ?_⟩
    · rw [← hn]
      exact DGet.k (k := Sum.inl (s : Int)) (e14 _ _ (e _ _ h))
    · rw [hf] at q
      exact q p H4 e14 h4
  · refine ⟨some (.ref l), ?_, q l H4 e14 (e14 _ _ (e _ _ hl))⟩
    rw [← hv]
    exact DGet.k (k := Sum.inl (s : Int)) (e14 _ _ (e _ _ h))
theorem q_asgF {i : Nat} (h : EvF te σ H xs) (k : ∀ p H1, Ex H H1 → H1 p = some (.lst xs) → tz D (σ.set i (some (.ref p))) H1) : tSeq (tAsg te (gName i)) tz D σ H := h H (Ex.refl H) _ fun p H1 e h1 => k p H1 e h1
/-- list(an evaluated list) -/
theorem el_listF (h : EvF te σ H xs) : EvL (tCB (rListS K) (tCons te tNil)) σ H xs := fun H1 e Q q =>
  h H1 e _ fun p H2 e2 h2 => ⟨p, xs, rfl, Or.inl (sq_of h2), fun l hl => q l _ (fresh_back e2 hl) (e2.trans (Ex.new hl)) upd_same⟩
theorem q_dcopy {i : Nat} (hd : Ev td σ H (.ref d)) (hD : Dz H d n f) (k : ∀ p H1, H p = none → Ex H H1 → Dz H1 p n f → tz D (σ.set i (some (.ref p))) H1) :
    tSeq (tAsg (tCB (fun xs H Q => ∃ (a : Addr) (kvs : List (Key × V)), xs = [.ref a] ∧ Rd H a (.dK kvs) ∧ ∀ p, H p = none → Q (.ref p) (upd H p (.dK kvs))) (tCons td tNil)) (gName i)) tz D σ H := by
  obtain ⟨kvs, h, hl, hs⟩ := hD
  refine hd H (Ex.refl H) _ fun H1 e1 => ⟨d, kvs, rfl, .inl (e1 _ _ h), fun p hp => k p _ (fresh_back e1 hp) (e1.trans (Ex.new hp)) ⟨kvs, upd_same, hl, fun s => (hs s).imp id fun ⟨l, a, b⟩ => ⟨l, a, (e1.trans (Ex.new hp)) _ _ b⟩⟩⟩
theorem s_dputL {zs : List Int} (hv : EvL te σ H (zs.map V.int)) (hd : Ev td σ H (.ref d)) (hk : Ev tk σ H (.int (s : Int))) (hD : Dz H d n f) (hn : n < 100000) (k : ∀ H1 o, Ex H H1 → Dz (upd H1 d o) d (n + 1) (fset f s zs) → D.nx σ (upd H1 d o)) : sDPut td tk te D σ H := by
  obtain ⟨kvs, h, hl, hs⟩ := hD
  refine hv H (Ex.refl H) _ fun l H1 hl1 e1 h1 => hd H1 e1 _ fun H2 e2 => hk H2 (e1.trans e2) _ fun H3 e3 => ?_
  have e13 := (e1.trans e2).trans e3
  have h3 := e13 _ _ h
  have l3 := e3 _ _ (e2 _ _ h1)
  have hld : l ≠ d := ne_of l3 h3 (by intro z; cases z)
  refine ⟨d, _, rfl, DPut.k (k := Sum.inl (s : Int)) h3 (sz_lt (by omega)), k H3 _ e13 ⟨_, upd_same, Nat.le_trans (length_putK _ _ _) (by omega), fun j => ?_⟩⟩
  rw [valV_put]
  by_cases hj : j = s
  · subst hj
    rw [if_pos rfl]
    refine .inr ⟨l, rfl, ?_⟩
    rw [upd_ne hld, l3]
    unfold fset
    rw [if_pos rfl]
  · rw [if_neg (fun z => hj (by cases z; rfl))]
    have ef : fset f s zs j = f j := if_neg hj
    rw [ef]
    refine (hs j).imp id fun ⟨m, a, b⟩ => ⟨m, a, ?_⟩
    have b3 := e13 _ _ b
    rw [upd_ne (ne_of b3 h3 (by intro z; cases z))]
    exact b3
theorem el_catL (ha : EvL ta σ H xs) (hb : EvL tb σ H ys) (hz : xs.length + ys.length ≤ 100000) : EvL (tOp rCat ta tb) σ H (xs ++ ys) := fun H1 e Q q =>
  ha H1 e _ fun a H2 ha2 e2 h2 => hb H2 (e.trans e2) _ fun b H3 hb3 e3 h3 => ⟨a, b, xs, ys, rfl, rfl, e3 _ _ h2, h3, sz_of hz, fun p hp => q p _ (fresh_back (e2.trans e3) hp) ((e2.trans e3).trans (Ex.new hp)) upd_same⟩
theorem el_cat {l : Addr} (ha : Ev ta σ H (.ref l)) (hl : H l = some (.lst xs)) (hb : EvL tb σ H ys) (hz : xs.length + ys.length ≤ 100000) : EvL (tOp rCat ta tb) σ H (xs ++ ys) := fun H1 e Q q =>
  ha H1 e _ fun H2 e2 => hb H2 (e.trans e2) _ fun b H3 hb3 e3 h3 => ⟨l, b, xs, ys, rfl, rfl, e3 _ _ (e2 _ _ (e _ _ hl)), h3, sz_of hz, fun p hp => q p _ (fresh_back (e2.trans e3) hp) ((e2.trans e3).trans (Ex.new hp)) upd_same⟩
theorem el_rep1 {z : Int} (ha : EvL ta σ H [v]) (hb : Ev tb σ H (.int z)) (h0 : 0 ≤ z) (h1 : z ≤ 100000) : EvL (tOp rRep ta tb) σ H (List.replicate z.toNat v) := fun H1 e Q q =>
  ha H1 e _ fun a H2 ha2 e2 h2 => hb H2 (e.trans e2) _ fun H3 e3 => ⟨a, z, [v], rfl, rfl, e3 _ _ h2, by omega, by omega, sz_of (by simp; omega), fun p hp => by
    have := q p (upd H3 p (.lst (List.replicate z.toNat [v]).flatten)) (fresh_back (e2.trans e3) hp) ((e2.trans e3).trans (Ex.new hp))
    rw [show (List.replicate z.toNat [v]).flatten = List.replicate z.toNat v by
      induction z.toNat with
      | zero => rfl
      | succ k ih => rw [List.replicate_succ, List.flatten_cons, ih]; rfl] at this ⊢
    exact this upd_same⟩
theorem ev_min2 {i j : Int} (ha : Ev ta σ H (.int i)) (hb : Ev tb σ H (.int j)) : Ev (tCB (fun xs H Q => ∃ i j, xs = [.int i, .int j] ∧ Q (.int (if j < i then j else i)) H) (tCons ta (tCons tb tNil))) σ H (.int (if j < i then j else i)) := ev_cb (ea_cons ha (ea_cons hb ea_nil)) fun H1 e Q q => ⟨i, j, rfl, q H1 (Ex.refl H1)⟩
theorem er_asg {i : Nat} {R : Rel} (h : EvR te σ H n R) (k : ∀ L xs H1, H L = none → Ex H H1 → H1 L = some (.lst xs) → xs.length = n → (∀ i y, xs[i]? = some y → R i (xs.take i) y H1) → tz D (σ.set i (some (.ref L))) H1) : tSeq (tAsg te (gName i)) tz D σ H := h H (Ex.refl H) _ k
theorem er_ret {R : Rel} (h : EvR te σ H n R) (k : ∀ L xs H1, H L = none → Ex H H1 → H1 L = some (.lst xs) → xs.length = n → (∀ i y, xs[i]? = some y → R i (xs.take i) y H1) → D.rt (.ref L) H1) : tRet te D σ H := h H (Ex.refl H) _ k
end
/-! ### more statements -/
section
variable {K : PySem.W.Frag} {σ : L2.St} {H : Hp} {ta tb te : TE} {t : TA} {xs ys : List V} {l C p dx : Addr} {fs : List (Str × V)} {m : Str} {n : Nat} {D : Ends} {tz : TS}
theorem s_setLL {j : Nat} (hl : H l = some (.lst xs)) (h : EvL te σ H ys) (ho : Ev ta σ H (.ref l)) (hi : Ev tb σ H (.int (j : Int))) (hj : j < xs.length) (k : ∀ q H1, H q = none → Ex H H1 → H1 q = some (.lst ys) → D.nx σ (upd H1 l (.lst (xs.set j (.ref q))))) :
    tAsg te (gSub ta tb rSetL) D σ H := h H (Ex.refl H) _ fun q H1 hq e1 h1 => ho H1 e1 _ fun H2 e2 => hi H2 (e1.trans e2) _ fun H3 e3 => ⟨l, xs, (j : Int), j, rfl, rfl, ((e1.trans e2).trans e3) l _ hl, ixN_nat hj, k q H3 hq ((e1.trans e2).trans e3) (e3 _ _ (e2 _ _ h1))⟩
theorem q_fldR {R : Rel} (hv : EvR te σ H n R) (ha : Ev ta σ H (.ref p)) (hi : H p = some (.ins C dx fs)) (c : Cls K C) (nA : NoAttr K C m) (hz : fs.length < 1000) (k : ∀ L xs H1 H2, H L = none → Ex H H1 → Ex H1 H2 → H2 L = some (.lst xs) → xs.length = n → (∀ i y, xs[i]? = some y → R i (xs.take i) y H1) → tz D σ (upd H2 p (.ins C dx (putF m (.ref L) fs)))) : tSeq (sFld K ta te m) tz D σ H :=
  hv H (Ex.refl _) _ fun L xs H1 hL e1 h1 hn hr => ha H1 e1 _ fun H2 e2 => ⟨p, C, dx, fs, rfl, e2 _ _ (e1 _ _ hi), c, nA, hz, k L xs H1 H2 hL e1 e2 (e2 _ _ h1) hn hr⟩
theorem q_forZ {a b : Addr} {g : TG} {tu : TS} (h : EvA t σ H [.ref a, .ref b]) (hx : SqL K H a xs) (hy : SqL K H b ys) (Pv : Nat → L2.St → Hp → Prop) (h0 : ∀ H1, Ex H H1 → Pv 0 σ H1) (hl : ∀ i σ' H', Pv i σ' H' → SqL K H' a xs ∧ SqL K H' b ys)
    (hs : ∀ i x y T σ' H', xs[i]? = some x → ys[i]? = some y → Pv i σ' H' → H' T = none → g (.ref T) σ' (upd H' T (.tup [x, y])) fun σ2 H2 => tu { D with nx := Pv (i + 1), ct := Pv (i + 1), bk := tz D } σ2 H2) (hd : ∀ σ' H', Pv (min xs.length ys.length) σ' H' → tz D σ' H') : tSeq (tFor (iZip K t) g tu) tz D σ H :=
  h H (Ex.refl H) _ fun H1 e => ⟨a, b, xs, ys, rfl, ex_l e hx, ex_l e hy, for_it (D := { D with nx := tz D }) (walk_zip rfl) Pv (h0 H1 e) (fun i σ' H' _ p => hl i σ' H' p) (fun i v σ' H' H2 hi p y => by
    obtain ⟨T, x, z, rfl, hT, rfl, h1, h2⟩ := y
    exact hs i x z T σ' H' h1 h2 p hT) hd⟩
end
theorem refs_of : ∀ {xs : List V}, (∀ y ∈ xs, ∃ a, y = V.ref a) → ∃ ks : List Addr, xs = ks.map V.ref
  | [], _ => ⟨[], rfl⟩
  | x :: r, h => by
    obtain ⟨a, rfl⟩ := h x List.mem_cons_self
    obtain ⟨ks, e⟩ := refs_of fun y hy => h y (List.mem_cons_of_mem _ hy)
    exact ⟨a :: ks, by rw [e]; rfl⟩
/-- a method that is passed a new list -/
theorem mR_run {sp : Sp} {σ : L2.St} {H : Hp} {ta te : TE} {C p dx : Addr} {fs : List (Str × V)} {m : Str} {xs : List V} {D : Ends} {E : XK} (ha : Ev ta σ H (.ref p)) (hi : H p = some (.ins C dx fs)) (hl : fs.lookup m = none) (ht : EvL te σ H xs) (k : ∀ c H1, H c = none → Ex H H1 → H1 c = some (.lst xs) → sp [.ref p, .ref c] H1 (fun _ H2 => D.nx σ H2) E) : tDrop (tMeth C m sp [] E ta (tCons te tNil)) D σ H :=
  ha H (Ex.refl _) _ fun H2 e2 => ⟨p, dx, fs, rfl, e2 _ _ hi, hl, ht H2 e2 _ fun c H3 hc e3 h3 => k c H3 (fresh_back e2 hc) (e2.trans e3) h3⟩
section
variable {K : PySem.W.Frag} {σ : L2.St} {H : Hp} {ta tb te t1 : TE} {t : TA} {v : V} {xs ys vs : List V} {C p dx a : Addr} {fs : List (Str × V)} {m : Str} {sp : Sp} {D : Ends} {tz : TS}
theorem ev_int1 {i : Int} (h : Ev te σ H (.int i)) : Ev (tCB (fun xs H Q => (∃ i, xs = [V.int i] ∧ Q (V.int i) H) ∨ ∃ k : Bool, xs = [V.bl k] ∧ Q (V.int (if k then 1 else 0)) H) (tCons te tNil)) σ H (.int i) := ev_cb (ea_cons h ea_nil) fun H1 _ Q q => .inl ⟨i, rfl, q _ (Ex.refl _)⟩
theorem ef_var (h : Ev te σ H (.ref a)) (ha : H a = some (.lst xs)) : EvF te σ H xs := fun H1 e Q q => h H1 e _ fun H2 e2 => q a H2 e2 (e2 _ _ (e _ _ ha))
theorem ef_is (h : EvF te σ H xs) (e : xs = ys) : EvF te σ H ys := e ▸ h
theorem el_meth {E : XK} (ha : Ev ta σ H (.ref p)) (hi : H p = some (.ins C dx fs)) (hl : fs.lookup m = none) (ht : EvA t σ H vs) (hs : SpL sp (.ref p :: vs) H xs) : EvL (tMeth C m sp [] E ta t) σ H xs := fun H1 e Q q =>
  ha H1 e _ fun H2 e2 => ⟨p, dx, fs, rfl, e2 _ _ (e _ _ hi), hl, ht H2 (e.trans e2) _ fun H3 e3 => by
    rw [List.append_nil]
    exact hs H3 ((e.trans e2).trans e3) Q (fun l H4 hl e4 h4 => q l H4 (fresh_back (e2.trans e3) hl) ((e2.trans e3).trans e4) h4) E⟩
/-- in a try's body: o.m(e, a new list), o.m(a new list), o.m(e ..) -/
theorem s_mA2L {E : L2.St → XK} (ha : Ev ta σ H (.ref p)) (hi : H p = some (.ins C dx fs)) (hl : fs.lookup m = none) (h1 : Ev t1 σ H v) (ht : EvL te σ H xs) (k : ∀ c H1, H c = none → Ex H H1 → H1 c = some (.lst xs) → sp [.ref p, v, .ref c] H1 (fun _ H2 => D.nx σ H2) (E σ)) : tDrop (tMethA C m sp E ta (tCons t1 (tCons te tNil))) D σ H :=
  ha H (Ex.refl _) _ fun H2 e2 => ⟨p, dx, fs, rfl, e2 _ _ hi, hl, h1 H2 e2 _ fun H3 e3 => ht H3 (e2.trans e3) _ fun c H4 hc e4 h4 => k c H4 (fresh_back (e2.trans e3) hc) ((e2.trans e3).trans e4) h4⟩
theorem s_mA1L {E : L2.St → XK} (ha : Ev ta σ H (.ref p)) (hi : H p = some (.ins C dx fs)) (hl : fs.lookup m = none) (ht : EvL te σ H xs) (k : ∀ c H1, H c = none → Ex H H1 → H1 c = some (.lst xs) → sp [.ref p, .ref c] H1 (fun _ H2 => D.nx σ H2) (E σ)) : tDrop (tMethA C m sp E ta (tCons te tNil)) D σ H :=
  ha H (Ex.refl _) _ fun H2 e2 => ⟨p, dx, fs, rfl, e2 _ _ hi, hl, ht H2 e2 _ fun c H3 hc e3 h3 => k c H3 (fresh_back e2 hc) (e2.trans e3) h3⟩
theorem s_mAV {E : L2.St → XK} (ha : Ev ta σ H (.ref p)) (hi : H p = some (.ins C dx fs)) (hl : fs.lookup m = none) (ht : EvA t σ H vs) (k : ∀ H1, Ex H H1 → sp (.ref p :: vs) H1 (fun _ H2 => D.nx σ H2) (E σ)) : tDrop (tMethA C m sp E ta t) D σ H := mA_run (Q := fun _ H2 => D.nx σ H2) ha hi hl ht k
end
/-! ### what is frozen: all that G has; what is new joins it, but for X -/
open Classical in
noncomputable def grow (G H H1 : Hp) (X : Addr → Prop) : Hp := fun a => if G a ≠ none then G a else if H a = none ∧ ¬ X a then H1 a else none
section
variable {G H H1 : Hp} {X : Addr → Prop} {a : Addr} {o : HO}
theorem grow_ex : Ex G (grow G H H1 X) := fun a o h => by
  unfold grow
  rw [if_pos (by rw [h]; exact fun e => by cases e)]
  exact h
theorem grow_sub (e : Ex G H1) : Ex (grow G H H1 X) H1 := fun a o h => by
  unfold grow at h
  split at h
  · exact e a o h
  · split at h
    · exact h
    · cases h
theorem grow_mono {H2 : Hp} (e : Ex H1 H2) : Ex (grow G H H1 X) (grow G H H2 X) := fun a o h => by
  unfold grow at h ⊢
  split at h
  · rename_i c
    rw [if_pos c]
    exact h
  · rename_i c
    rw [if_neg c]
    split at h
    · rename_i c2
      rw [if_pos c2]
      exact e _ _ h
    · cases h
theorem grow_no (h : H a ≠ none) (g : G a = none) : grow G H H1 X a = none := by
  unfold grow
  rw [if_neg (by rw [g]; exact fun e => e rfl), if_neg fun e => h e.1]
theorem grow_X (x : X a) (g : G a = none) : grow G H H1 X a = none := by
  unfold grow
  rw [if_neg (by rw [g]; exact fun e => e rfl), if_neg fun e => e.2 x]
theorem grow_new (g : G a = none) (h : H a = none) (x : ¬ X a) (h1 : H1 a = some o) : grow G H H1 X a = some o := by
  unfold grow
  rw [if_neg (by rw [g]; exact fun e => e rfl), if_pos ⟨h, x⟩]
  exact h1
end
theorem ef_ref {te : TE} {σ : L2.St} {H : Hp} {a : Addr} {xs : List V} (h : Ev te σ H (.ref a)) (ha : H a = some (.lst xs)) : EvF te σ H xs := ef_var h ha
theorem ev_lenT {K : PySem.W.Frag} {ta : TE} {σ : L2.St} {H : Hp} {p : Addr} {xs : List V} (ha : Ev ta σ H (.ref p)) (h : SqT K H p xs) : Ev (tCB (rLenS K) (tCons ta tNil)) σ H (.int (xs.length : Int)) := ev_cb (ea_cons ha ea_nil) fun H1 e Q q => ⟨p, xs, rfl, .inr (ex_t e h), q H1 (Ex.refl H1)⟩
theorem ints_inj : ∀ {a b : List Int}, a.map V.int = b.map V.int → a = b
  | [], [], _ => rfl
  | [], _ :: _, h => by simp at h
  | _ :: _, [], h => by simp at h
  | a :: r, b :: s, h => by
    rw [List.map_cons, List.map_cons] at h
    injection h with h1 h2
    rw [V.int.inj h1, ints_inj h2]
/-! ### a dict that is being made: its lists are frozen or new -/
def DzG (G H0 H' : Hp) (d : Addr) (n : Nat) (f : Nat → List Int) : Prop := ∃ kvs : List (Key × V), H' d = some (.dK kvs) ∧ kvs.length ≤ n ∧ ∀ s : Nat, (valV kvs (.inl (s : Int)) = none ∧ f s = Z8) ∨ ∃ l, valV kvs (.inl (s : Int)) = some (.ref l) ∧ (G l = some (.lst ((f s).map V.int)) ∨ (H0 l = none ∧ H' l = some (.lst ((f s).map V.int))))
section
variable {G H0 H H' : Hp} {σ : L2.St} {te td tk : TE} {d : Addr} {n s : Nat} {f : Nat → List Int} {D : Ends} {tz : TS}
theorem DzG.ex (h : DzG G H0 H d n f) (e : Ex H H') : DzG G H0 H' d n f := by
  obtain ⟨kvs, h, hl, hs⟩ := h
  exact ⟨kvs, e _ _ h, hl, fun s => (hs s).imp id fun ⟨l, a, b⟩ => ⟨l, a, b.imp id fun c => ⟨c.1, e _ _ c.2⟩⟩⟩
theorem DzG.dz (h : DzG G H0 H d n f) (e : Ex G H) : Dz H d n f := by
  obtain ⟨kvs, h, hl, hs⟩ := h
  exact ⟨kvs, h, hl, fun s => (hs s).imp id fun ⟨l, a, b⟩ => ⟨l, a, b.elim (fun c => e _ _ c) fun c => c.2⟩⟩
theorem DzG.grown (h : DzG G H0 H d n f) (hd : H0 d = none) (g : Ex G H0) : Dz (grow G H0 H fun _ => False) d n f := by
  obtain ⟨kvs, h, hl, hs⟩ := h
  exact ⟨kvs, grow_new (fresh_back g hd) hd id h, hl, fun s => (hs s).imp id fun ⟨l, a, b⟩ => ⟨l, a, b.elim (fun c => grow_ex _ _ c) fun c => grow_new (fresh_back g c.1) c.1 id c.2⟩⟩
theorem q_dcopyG {i : Nat} (g : Ex G H) (hd : Ev td σ H (.ref d)) (hD : Dz G d n f) (k : ∀ p H1, H p = none → Ex H H1 → DzG G H H1 p n f → tz D (σ.set i (some (.ref p))) H1) :
    tSeq (tAsg (tCB (fun xs H Q => ∃ (a : Addr) (kvs : List (Key × V)), xs = [.ref a] ∧ Rd H a (.dK kvs) ∧ ∀ p, H p = none → Q (.ref p) (upd H p (.dK kvs))) (tCons td tNil)) (gName i)) tz D σ H := by
  obtain ⟨kvs, h, hl, hs⟩ := hD
  refine hd H (Ex.refl H) _ fun H1 e1 => ⟨d, kvs, rfl, .inl (e1 _ _ (g _ _ h)), fun p hp => k p _ (fresh_back e1 hp) (e1.trans (Ex.new hp)) ⟨kvs, upd_same, hl, fun s => (hs s).imp id fun ⟨l, a, b⟩ => ⟨l, a, .inl b⟩⟩⟩
theorem s_dputG {zs : List Int} (g : Ex H0 H) (hv : EvL te σ H (zs.map V.int)) (hd : Ev td σ H (.ref d)) (hk : Ev tk σ H (.int (s : Int))) (hD : DzG G H0 H d n f) (hn : n < 100000) (k : ∀ H1 o, Ex H H1 → DzG G H0 (upd H1 d o) d (n + 1) (fset f s zs) → D.nx σ (upd H1 d o)) : sDPut td tk te D σ H := by
  obtain ⟨kvs, h, hl, hs⟩ := hD
  refine hv H (Ex.refl H) _ fun l H1 hl1 e1 h1 => hd H1 e1 _ fun H2 e2 => hk H2 (e1.trans e2) _ fun H3 e3 => ?_
  have e13 := (e1.trans e2).trans e3
  have h3 := e13 _ _ h
  have l3 := e3 _ _ (e2 _ _ h1)
  have hld : l ≠ d := ne_of l3 h3 (by intro z; cases z)
  refine ⟨d, _, rfl, DPut.k (k := Sum.inl (s : Int)) h3 (sz_lt (by omega)), k H3 _ e13 ⟨_, upd_same, Nat.le_trans (length_putK _ _ _) (by omega), fun j => ?_⟩⟩
  rw [valV_put]
  by_cases hj : j = s
  · subst hj
    rw [if_pos rfl]
    refine .inr ⟨l, rfl, .inr ⟨fresh_back g hl1, ?_⟩⟩
    rw [upd_ne hld, l3]
    unfold fset
    rw [if_pos rfl]
  · rw [if_neg (fun z => hj (by cases z; rfl))]
    have ef : fset f s zs j = f j := if_neg hj
    rw [ef]
    refine (hs j).imp id fun ⟨m, a, b⟩ => ⟨m, a, b.imp id fun c => ⟨c.1, ?_⟩⟩
    have b3 := e13 _ _ c.2
    rw [upd_ne (ne_of b3 h3 (by intro z; cases z))]
    exact b3
end
section
variable {K : PySem.W.Frag} {σ : L2.St} {H : Hp} {t1 t2 te : TE} {v1 v2 : V} {xs : List V} {l : Addr} {sp : Sp} {E : XK} {D : Ends} {tz : TS}
/-- x = f(e, e', a new list) -/
theorem q_call3L {i : Nat} (h1 : Ev t1 σ H v1) (h2 : Ev t2 σ H v2) (h3 : EvL te σ H xs) (k : ∀ c H1, H c = none → Ex H H1 → H1 c = some (.lst xs) → sp [v1, v2, .ref c] H1 (fun v H2 => tz D (σ.set i (some v)) H2) E) : tSeq (tAsg (tCall sp [] E (tCons t1 (tCons t2 (tCons te tNil)))) (gName i)) tz D σ H :=
  h1 H (Ex.refl _) _ fun H1 e1 => h2 H1 e1 _ fun H2 e2 => h3 H2 (e1.trans e2) _ fun c H3 hc e3 h3' => k c H3 (fresh_back (e1.trans e2) hc) ((e1.trans e2).trans e3) h3'
/-- x = x + [(e, e')] -/
theorem s_snocT {i : Nat} (ha : Ev te σ H (.ref l)) (hl : H l = some (.lst xs)) (h1 : Ev t1 σ H v1) (h2 : Ev t2 σ H v2) (hz : xs.length < 10000) (k : ∀ t L H1, H t = none → H L = none → Ex H H1 → H1 t = some (.tup [v1, v2]) → H1 L = some (.lst (xs ++ [.ref t])) → D.nx (σ.set i (some (.ref L))) H1) :
    tAsg (tOp rCat te (tLst (tCons (tTup (tCons t1 (tCons t2 tNil))) tNil))) (gName i) D σ H :=
  ha H (Ex.refl _) _ fun H1 e1 => h1 H1 e1 _ fun H2 e2 => h2 H2 (e1.trans e2) _ fun H3 e3 => ⟨by show 2 ≤ sizeLine; decide, fun t ht => ⟨by show 1 ≤ sizeLine; decide, fun b hb => by
    have e4 := Ex.new (o := .tup [v1, v2]) ht
    have e5 := Ex.new (o := .lst [.ref t]) hb
    have e13 := (e1.trans e2).trans e3
    refine ⟨l, b, xs, [.ref t], rfl, rfl, e5 _ _ (e4 _ _ (e13 _ _ hl)), upd_same, sz_of (by simp; omega), fun L hL => ?_⟩
    have e6 := Ex.new (o := .lst (xs ++ [.ref t])) hL
    exact k t L _ (fresh_back e13 ht) (fresh_back ((e13.trans e4).trans e5) hL) (((e13.trans e4).trans e5).trans e6) (e6 _ _ (e5 _ _ upd_same)) upd_same⟩⟩
end
end LP

set_option Elab.async false
set_option linter.all false
set_option maxRecDepth 100000
set_option maxHeartbeats 4000000
namespace LV
open PySem PySem.Spec PyProof.Rows L2 Evl LT LG LH
section
variable {K : PySem.W.Frag} {σ : L2.St} {H : Hp} {tl te : TE} {ta : TA} {P a b : Addr} {xs ys : List V} {okc : Nat → (Nat → V) → V → Prop} {vals : Nat → V} {r : V} {j j2 : Nat} {vs : List Nat}
/-- a generator expression over a list that stands, over a tuple, a range, a text, two lists: elements that leave what is known -/
theorem ev_gxL (h : Ev tl σ H (.ref a)) (hx : SqL K H a xs) (hT : Tab H P) (ok : okc xs.length vals r) (hw : ∀ x, wipe ((wipe σ vs).set j (some x)) vs = wipe σ vs) (he : ∀ (i : Nat) (x : V) H1, Ex H H1 → xs[i]? = some x → Ev te ((wipe σ vs).set j (some x)) H1 (vals i)) : Ev (tGX P okc (iList K tl) (gName j) te vs) σ H r := fun H1 e Q q =>
  h H1 e _ fun H2 e2 => ⟨a, rfl, ⟨xs, ex_l (e.trans e2) hx⟩, hT.mono (e.trans e2), xs.length, vals, r, fun _ H' => Ex H2 H', ok, Ex.refl _, fun i H' hi w => ⟨⟨xs, xs[i], ex_l ((e.trans e2).trans w) hx, List.getElem?_eq_getElem hi⟩, fun x H3 hy => by
    obtain ⟨rfl, hy⟩ := hy
    exact ⟨hw x, he i x _ ((e.trans e2).trans w) (hy xs (ex_l ((e.trans e2).trans w) hx)) _ (Ex.refl _) _ fun H4 e4 => ⟨rfl, w.trans e4⟩⟩⟩, fun H' w => ⟨xs, ex_l ((e.trans e2).trans w) hx, Nat.le_refl _⟩, fun i H' _ w => q H' (e2.trans w)⟩
theorem ev_gxT (h : Ev tl σ H (.ref a)) (hx : SqT K H a xs) (hT : Tab H P) (ok : okc xs.length vals r) (hw : ∀ x, wipe ((wipe σ vs).set j (some x)) vs = wipe σ vs) (he : ∀ (i : Nat) (x : V) H1, Ex H H1 → xs[i]? = some x → Ev te ((wipe σ vs).set j (some x)) H1 (vals i)) : Ev (tGX P okc (iTup K tl) (gName j) te vs) σ H r := fun H1 e Q q =>
  h H1 e _ fun H2 e2 => ⟨a, rfl, ⟨xs, ex_t (e.trans e2) hx⟩, hT.mono (e.trans e2), xs.length, vals, r, fun _ H' => Ex H2 H', ok, Ex.refl _, fun i H' hi w => ⟨⟨xs, xs[i], ex_t ((e.trans e2).trans w) hx, List.getElem?_eq_getElem hi⟩, fun x H3 hy => by
    obtain ⟨rfl, hy⟩ := hy
    exact ⟨hw x, he i x _ ((e.trans e2).trans w) (hy xs (ex_t ((e.trans e2).trans w) hx)) _ (Ex.refl _) _ fun H4 e4 => ⟨rfl, w.trans e4⟩⟩⟩, fun H' w => ⟨xs, ex_t ((e.trans e2).trans w) hx, Nat.le_refl _⟩, fun i H' _ w => q H' (e2.trans w)⟩
theorem ev_gxR {n : Int} (h : EvA ta σ H [.int n]) (hn : 0 ≤ n ∧ n ≤ 100000) (hT : Tab H P) (ok : okc n.toNat vals r) (hw : ∀ x, wipe ((wipe σ vs).set j (some x)) vs = wipe σ vs) (he : ∀ (i : Nat) H1, Ex H H1 → (i : Int) < n → Ev te ((wipe σ vs).set j (some (.int (i : Int)))) H1 (vals i)) : Ev (tGX P okc (iRng1 ta) (gName j) te vs) σ H r := fun H1 e Q q =>
  h H1 e _ fun H2 e2 => ⟨n, rfl, by omega, by omega, hT.mono (e.trans e2), n.toNat, vals, r, fun _ H' => Ex H2 H', ok, Ex.refl _, fun i H' hi w => ⟨hi, fun x H3 hy => by
    obtain ⟨rfl, rfl⟩ := hy
    rw [Int.zero_add]
    exact ⟨hw _, he i _ ((e.trans e2).trans w) (by omega) _ (Ex.refl _) _ fun H4 e4 => ⟨rfl, w.trans e4⟩⟩⟩, fun H' w => Nat.le_refl _, fun i H' _ w => q H' (e2.trans w)⟩
theorem ev_gxS {z : Str} (h : Ev tl σ H (.str z)) (hT : Tab H P) (ok : okc z.cps.size vals r) (hw : ∀ x, wipe ((wipe σ vs).set j (some x)) vs = wipe σ vs) (he : ∀ (i : Nat) (c : Nat) H1, Ex H H1 → z.cps[i]? = some c → Ev te ((wipe σ vs).set j (some (.str ⟨#[c]⟩))) H1 (vals i)) : Ev (tGX P okc (iStr tl) (gName j) te vs) σ H r := fun H1 e Q q =>
  h H1 e _ fun H2 e2 => ⟨z, rfl, hT.mono (e.trans e2), z.cps.size, vals, r, fun _ H' => Ex H2 H', ok, Ex.refl _, fun i H' hi w => ⟨hi, fun x H3 hy => by
    obtain ⟨rfl, c, hc, rfl⟩ := hy
    exact ⟨hw _, he i c _ ((e.trans e2).trans w) hc _ (Ex.refl _) _ fun H4 e4 => ⟨rfl, w.trans e4⟩⟩⟩, fun H' w => Nat.le_refl _, fun i H' _ w => q H' (e2.trans w)⟩
/-- over zip of two lists -/
theorem ev_gxZ {n : Nat} (h : EvA ta σ H [.ref a, .ref b]) (hx : SqL K H a xs) (hy : SqL K H b ys) (hn : n = min xs.length ys.length) (hT : Tab H P) (ok : okc n vals r) (hw : ∀ x y, wipe (((wipe σ vs).set j (some x)).set j2 (some y)) vs = wipe σ vs)
    (he : ∀ (i : Nat) (x y : V) H1, Ex H H1 → xs[i]? = some x → ys[i]? = some y → Ev te (((wipe σ vs).set j (some x)).set j2 (some y)) H1 (vals i)) : Ev (tGX P okc (iZip K ta) (gTup K 2 (gCons (gName j) (gCons (gName j2) gNil))) te vs) σ H r := fun H1 e Q q =>
  h H1 e _ fun H2 e2 => ⟨a, b, xs, ys, rfl, ex_l (e.trans e2) hx, ex_l (e.trans e2) hy, hT.mono (e.trans e2), n, vals, r, fun _ H' => Ex H2 H', ok, Ex.refl _, fun i H' hi w => ⟨⟨xs, ys, xs[i]'(by omega), ys[i]'(by omega), ex_l ((e.trans e2).trans w) hx, ex_l ((e.trans e2).trans w) hy, List.getElem?_eq_getElem _, List.getElem?_eq_getElem _⟩, fun x H3 hz => by
    obtain ⟨T, x1, y1, rfl, hT1, rfl, h1, h2⟩ := hz
    have e3 := ((e.trans e2).trans w).trans (Ex.new (o := .tup [x1, y1]) hT1)
    refine ⟨T, _, rfl, st_of upd_same, rfl, _, _, rfl, _, _, rfl, rfl, hw x1 y1, ?_⟩
    exact he i x1 y1 _ e3 (h1 xs (ex_l ((e.trans e2).trans w) hx)) (h2 ys (ex_l ((e.trans e2).trans w) hy)) _ (Ex.refl _) _ fun H4 e4 => ⟨rfl, (w.trans (Ex.new hT1)).trans e4⟩⟩, fun H' w => ⟨xs, ys, ex_l ((e.trans e2).trans w) hx, ex_l ((e.trans e2).trans w) hy, by omega⟩, fun i H' _ w => q H' (e2.trans w)⟩
theorem ok_all {n : Nat} (f : Nat → Bool) : okAll n (fun i => .bl (f i)) (.bl (allF n f)) := ⟨f, rfl, rfl⟩
theorem ok_any {n : Nat} (f : Nat → Bool) : okAny n (fun i => .bl (f i)) (.bl (anyF n f)) := ⟨f, rfl, rfl⟩
theorem ok_sum {n : Nat} (f : Nat → Int) (h : ∀ j, j < n → InLong (f j) ∧ InLong (preSum f (j + 1))) : okSum n (fun i => .int (f i)) (.int (preSum f n)) := ⟨f, rfl, rfl, h⟩
theorem ok_max {n : Nat} (f : Nat → Int) (h : 0 < n) : okMax n (fun i => .int (f i)) (.int (topI f (n - 1))) := ⟨f, rfl, rfl, h⟩
/-- sum(a new list of ints) -/
theorem ev_sumN {ns : List Int} (h : EvL te σ H (ns.map V.int)) : Ev (tCB (rSum K) (tCons te tNil)) σ H (.int ns.sum) := fun H1 e Q q =>
  h H1 e _ fun p H2 _ e2 h2 => ⟨p, ns, rfl, sq_of h2, q H2 e2⟩
end
end LV
namespace LV
open PySem PySem.Spec PyProof.Rows L2 Evl LT LG LH LP StX
section
variable {K : PySem.W.Frag} {σ : L2.St} {H H' : Hp} {tl te ta tb : TE} {t : TA} {p l : Addr} {xs ys : List V} {v : V} {D : Ends} {tz : TS}
theorem ea_starT (h : Ev te σ H (.ref p)) (hx : SqT K H p xs) (hr : EvA t σ H ys) : EvA (tStar K te t) σ H (xs ++ ys) := fun H1 e Q q =>
  h H1 e _ fun H2 e2 => ⟨p, xs, rfl, .inl (ex_t (e.trans e2) hx), hr H2 (e.trans e2) _ fun H3 e3 => q H3 (e2.trans e3)⟩
theorem ea_starN (h : EvL te σ H xs) (hr : EvA t σ H ys) : EvA (tStar K te t) σ H (xs ++ ys) := fun H1 e Q q =>
  h H1 e _ fun p H2 _ e2 h2 => ⟨p, xs, rfl, .inr (sq_of h2), hr H2 (e.trans e2) _ fun H3 e3 => q H3 (e2.trans e3)⟩
theorem cut_mid (xs : List V) {i j : Nat} (h : i ≤ j) (hj : j ≤ xs.length) : cutV xs (some (i : Int)) (some (j : Int)) = (xs.drop i).take (j - i) := by
  unfold cutV
  rw [HT.sIx_nat, HT.sIx_nat]; try rw [show min j xs.length = j from Nat.min_eq_left hj]
  rw [show min i xs.length = i from Nat.min_eq_left (Nat.le_trans h hj)]
/-- xs[i] of a new list -/
theorem ev_ixN {i : Int} (ha : EvL ta σ H xs) (hb : ∀ H1, Ex H H1 → Ev tb σ H1 (.int i)) (h : atI xs i = some v) : Ev (tOp (rIxL K) ta tb) σ H v := ev_opL1 ha hb fun p H1 h1 _ => rv_ixL (sq_of h1) h
/-- tuple(a list that stands or is new) is eu_tupL; of a tuple: the same -/
theorem ev_tupT (h : Ev te σ H (.ref p)) (hx : SqT K H p xs) : Ev (tCB (fun zs H Q => ∃ p ys, zs = [.ref p] ∧ ((SqL K H p ys ∧ ∀ l, H l = none → Q (.ref l) (upd H l (.tup ys))) ∨ (SqT K H p ys ∧ Q (.ref p) H))) (tCons te tNil)) σ H (.ref p) := fun H1 e Q q =>
  h H1 e _ fun H2 e2 => ⟨p, xs, rfl, .inr ⟨ex_t (e.trans e2) hx, q H2 e2⟩⟩
theorem ev_lenL (ha : Ev te σ H (.ref p)) (h : H p = some (.lst xs)) : Ev (tCB (rLenS K) (tCons te tNil)) σ H (.int (xs.length : Int)) := ev_len ha (sq_of h)
/-- a tuple made of a new tuple and .. -/
theorem q_appUL {ys : List V} (hl : H l = some (.lst xs)) (ha : Ev ta σ H (.ref l)) (h : EvU te σ H ys) (hz : xs.length < 100000) (k : ∀ p H1, H p = none → Ex H H1 → H1 p = some (.tup ys) → tz D σ (upd H1 l (.lst (xs ++ [.ref p])))) :
    tSeq (tDrop (tBM K "list" rAppend ta (tCons te tNil))) tz D σ H := q_appU hl ha h hz k
end
/-! ### heaps in which one object may change -/
def Bx (p : Addr) (H H' : Hp) : Prop := ∀ a o, a ≠ p → H a = some o → H' a = some o
theorem Bx.of {p : Addr} {H H' : Hp} (e : Ex H H') : Bx p H H' := fun a o _ h => e a o h
theorem Bx.trans {p : Addr} {H H1 H2 : Hp} (e : Bx p H H1) (f : Bx p H1 H2) : Bx p H H2 := fun a o n h => f a o n (e a o n h)
theorem Bx.up {p : Addr} {H H' : Hp} {o : HO} (e : Bx p H H') : Bx p H (upd H' p o) := fun a u n h => by
  rw [upd_ne n]
  exact e a u n h
theorem Bx.ex {p : Addr} {H0 H H' : Hp} (e : Ex H0 H) (f : Bx p H H') (n : H0 p = none) : Ex H0 H' := fun a o h => f a o (fun z => by rw [z, n] at h; cases h) (e a o h)
theorem Bx.back {p q : Addr} {H H' : Hp} (e : Bx p H H') (n : q ≠ p) (h : H' q = none) : H q = none := by
  cases h1 : H q with
  | none => rfl
  | some o =>
    rw [e q o n h1] at h
    cases h
end LV
namespace LV
open PySem PySem.Spec PyProof.Rows L2 Evl LT LG LH LP StX
section
variable {σ : L2.St} {H : Hp} {t1 t2 te : TE} {v1 v2 : V} {xs ys : List V} {sp : Sp} {E : XK} {D : Ends} {tz : TS}
/-- x = f(e, a new list) -/
theorem q_call2L {i : Nat} (h1 : Ev t1 σ H v1) (h2 : EvL te σ H xs) (k : ∀ c H1, H c = none → Ex H H1 → H1 c = some (.lst xs) → sp [v1, .ref c] H1 (fun v H2 => tz D (σ.set i (some v)) H2) E) : tSeq (tAsg (tCall sp [] E (tCons t1 (tCons te tNil))) (gName i)) tz D σ H :=
  h1 H (Ex.refl _) _ fun H1 e1 => h2 H1 e1 _ fun c H2 hc e2 h3 => k c H2 (fresh_back e1 hc) (e1.trans e2) h3
theorem ev_is' (h : EvU te σ H xs) (e : xs = ys) : EvU te σ H ys := by
  rw [← e]
  exact h
end
end LV
namespace LV
open PySem PySem.Spec PyProof.Rows L2 Evl LT LG LH LP StX
/-! ### a heap without some of its objects -/
def frz (S : List Addr) (H : Hp) : Hp := fun a => if a ∈ S then none else H a
theorem frz_ne {S : List Addr} {H : Hp} {a : Addr} (h : a ∉ S) : frz S H a = H a := if_neg h
theorem frz_upd {S : List Addr} {H : Hp} {a : Addr} {o : HO} (h : a ∈ S) : frz S (upd H a o) = frz S H := funext fun b => by
  unfold frz
  by_cases hb : b ∈ S
  · rw [if_pos hb, if_pos hb]
  · rw [if_neg hb, if_neg hb, upd_ne fun z => hb (by rw [z]; exact h)]
theorem frz_ex {S : List Addr} {H : Hp} : Ex (frz S H) H := fun a o h => by
  unfold frz at h
  by_cases hb : a ∈ S
  · rw [if_pos hb] at h
    cases h
  · rw [if_neg hb] at h
    exact h
theorem ex_frz {S : List Addr} {H H' : Hp} (e : Ex H H') : Ex (frz S H) (frz S H') := fun a o h => by
  unfold frz at h ⊢
  by_cases hb : a ∈ S
  · rw [if_pos hb] at h
    cases h
  · rw [if_neg hb] at h ⊢
    exact e _ _ h
theorem frz_some {S : List Addr} {H : Hp} {a : Addr} {o : HO} (h : frz S H a = some o) : a ∉ S ∧ H a = some o := by
  unfold frz at h
  by_cases hb : a ∈ S
  · rw [if_pos hb] at h
    cases h
  · rw [if_neg hb] at h
    exact ⟨hb, h⟩
theorem Bx.mut {p w : Addr} {H H' : Hp} {o : HO} (e : Bx p H H') (h : H w = none) : Bx p H (upd H' w o) := fun a u n ha => by
  rw [upd_ne fun z => by rw [z, h] at ha; cases ha]
  exact e a u n ha
theorem Bx.l {K : PySem.W.Frag} {p a : Addr} {H H' : Hp} {xs : List V} (e : Bx p H H') (n : a ≠ p) (h : SqL K H a xs) : SqL K H' a xs := by
  rcases h with (h | ⟨o, h⟩) | h
  · exact .inl (.inl (e _ _ n h))
  · exact .inl (.inr ⟨o, e _ _ n h⟩)
  · exact .inr h
end LV
namespace LV
open PySem PySem.Spec PyProof.Rows L2 Evl LT LG LH LP StX
/-- what a for over the list a asks -/
abbrev FB (K : PySem.W.Frag) (a : Addr) (g : TG) (tb : TS) (D : Ends) (σ : L2.St) (H : Hp) : Prop := ∃ W : Nat → Nat → L2.St → Hp → Prop, (∃ m, W 0 m σ H) ∧ ∀ i m σ H, W i m σ H →
  ((Itl K a).stop i H ∧ D.nx σ H) ∨ ((Itl K a).go i H ∧ ∃ N : L2.St → Hp → Prop, (∀ σ' H', N σ' H' → ∃ m', m' < m ∧ W (i + 1) m' σ' H') ∧ ∀ x H', (Itl K a).yld i H x H' → g x σ H' fun σ2 H2 => tb { D with nx := N, ct := N, bk := D.nx } σ2 H2)
/-- for .. in f(..): the call makes a list -/
theorem s_forCall {K : PySem.W.Frag} {σ : L2.St} {H : Hp} {g : TG} {tb : TS} {D : Ends} {sp : Sp} {E : XK} {tr : TA} {vs : List V} (h : EvA tr σ H vs) (k : ∀ H1, Ex H H1 → sp vs H1 (fun x H2 => ∃ a, x = V.ref a ∧ (∃ xs, SqL K H2 a xs) ∧ FB K a g tb D σ H2) E) : tFor (iList K (tCall sp [] E tr)) g tb D σ H :=
  h H (Ex.refl _) _ fun H1 e1 => by
    rw [List.append_nil]
    exact k H1 e1
theorem q_forCall {K : PySem.W.Frag} {σ : L2.St} {H : Hp} {g : TG} {tb tz : TS} {D : Ends} {sp : Sp} {E : XK} {tr : TA} {vs : List V} (h : EvA tr σ H vs) (k : ∀ H1, Ex H H1 → sp vs H1 (fun x H2 => ∃ a, x = V.ref a ∧ (∃ xs, SqL K H2 a xs) ∧ FB K a g tb { D with nx := tz D } σ H2) E) : tSeq (tFor (iList K (tCall sp [] E tr)) g tb) tz D σ H := s_forCall (D := { D with nx := tz D }) h k
section
variable {P : Program} {w : World} {K : PySem.W.Frag} {mg : Str → Option Value} {base : Heap}
/-- as FunC.ok, for a def that may raise -/
theorem _root_.LS.FunC.okX {x qual : Str} {st : Stmt} {f c : Addr} {fd : FuncData} {N ps : List Str} {k : Nat} {sp : Sp} (F : LS.FunC K x qual st f fd c) (S : FnScope N ps (defScope st)) (len : ∀ vs H Q E, sp vs H Q E → vs.length = ps.length)
    (hbody : ∀ (A : Around) (outer : List Env) (s : Shared) (H : Hp) (vs : List V) (Q : VK) (E : XK), Room k (A.deeper (envOfC qual (defScope st) s.heap.objs.size f (.ref c))) → sp vs H Q E →
      ∃ t, PSs (cxOf (L2.CX P w) P w K mg base N qual (defScope st) f (.ref c) A outer s H E) (defBody st) t ∧ t { nx := fun _ H' => Q .non H', rt := Q } (start N vs) H) : FnOk P w K mg base (L2.CX P w) (k + 1) f fd ps sp := by
  obtain ⟨oc, od, kV, doc, pm, an, ct, osl, rfl, lk, hcd⟩ := F.ex
  exact fn_of lk hcd S len fun A outer s H vs Q E hr hsp => hbody A outer s H vs Q E hr hsp
end
end LV

set_option Elab.async false
set_option linter.all false
set_option maxRecDepth 100000
set_option maxHeartbeats 4000000
namespace LD
open PySem PySem.Spec PyProof.Rows L2 Evl LT LG LH LV LP LO
/-! ### a dict with int keys that stands at d -/
section
variable {K : PySem.W.Frag} {σ : L2.St} {H : Hp} {td tk te tl : TE} {d : Addr} {kvs : List (Key × V)} {z : Int} {v : V} {D : Ends} {tz : TS}
theorem ev_dIn (hk : Ev tk σ H (.int z)) (hd : Ev td σ H (.ref d)) (h : H d = some (.dK kvs)) : Ev (tDIn tk td) σ H (.bl (valV kvs (.inl z)).isSome) := fun H1 e Q q =>
  hk H1 e _ fun H2 e2 => hd H2 (e.trans e2) _ fun H3 e3 => ⟨d, _, rfl, DGet.k (k := Sum.inl z) (((e.trans e2).trans e3) _ _ h), q H3 (e2.trans e3)⟩
theorem ev_dNi (hk : Ev tk σ H (.int z)) (hd : Ev td σ H (.ref d)) (h : H d = some (.dK kvs)) : Ev (tDNotIn tk td) σ H (.bl (!(valV kvs (.inl z)).isSome)) := fun H1 e Q q =>
  hk H1 e _ fun H2 e2 => hd H2 (e.trans e2) _ fun H3 e3 => ⟨d, _, rfl, DGet.k (k := Sum.inl z) (((e.trans e2).trans e3) _ _ h), q H3 (e2.trans e3)⟩
theorem ev_dget (hd : Ev td σ H (.ref d)) (hk : Ev tk σ H (.int z)) (h : H d = some (.dK kvs)) (hv : valV kvs (.inl z) = some v) : Ev (tDGet td tk) σ H v := fun H1 e Q q =>
  hd H1 e _ fun H2 e2 => hk H2 (e.trans e2) _ fun H3 e3 => ⟨d, v, rfl, by rw [← hv]; exact DGet.k (k := Sum.inl z) (((e.trans e2).trans e3) _ _ h), q H3 (e2.trans e3)⟩
theorem s_dputU {xs : List V} (hv : EvU te σ H xs) (hd : Ev td σ H (.ref d)) (hk : Ev tk σ H (.int z)) (h : H d = some (.dK kvs)) (hl : kvs.length < 100000) (k : ∀ p H1, H p = none → Ex H H1 → H1 p = some (.tup xs) → D.nx σ (upd H1 d (.dK (putK kvs (.inl z) (.ref p))))) : sDPut td tk te D σ H :=
  hv H (Ex.refl _) _ fun p H1 hp e1 h1 => hd H1 e1 _ fun H2 e2 => hk H2 (e1.trans e2) _ fun H3 e3 => ⟨d, _, rfl, DPut.k (k := Sum.inl z) (((e1.trans e2).trans e3) _ _ h) (sz_lt hl), k p H3 hp ((e1.trans e2).trans e3) (e3 _ _ (e2 _ _ h1))⟩
theorem s_dputL' {xs : List V} (hv : EvL te σ H xs) (hd : Ev td σ H (.ref d)) (hk : Ev tk σ H (.int z)) (h : H d = some (.dK kvs)) (hl : kvs.length < 100000) (k : ∀ p H1, H p = none → Ex H H1 → H1 p = some (.lst xs) → D.nx σ (upd H1 d (.dK (putK kvs (.inl z) (.ref p))))) : sDPut td tk te D σ H :=
  hv H (Ex.refl _) _ fun p H1 hp e1 h1 => hd H1 e1 _ fun H2 e2 => hk H2 (e1.trans e2) _ fun H3 e3 => ⟨d, _, rfl, DPut.k (k := Sum.inl z) (((e1.trans e2).trans e3) _ _ h) (sz_lt hl), k p H3 hp ((e1.trans e2).trans e3) (e3 _ _ (e2 _ _ h1))⟩
theorem s_ddel (hd : Ev td σ H (.ref d)) (hk : Ev tk σ H (.int z)) (h : H d = some (.dK kvs)) (hv : (valV kvs (.inl z)).isSome = true) (k : ∀ H1, Ex H H1 → D.nx σ (upd H1 d (.dK (dropK kvs (.inl z))))) : sDDel td tk D σ H :=
  hd H (Ex.refl _) _ fun H1 e1 => hk H1 e1 _ fun H2 e2 => ⟨d, kvs, .inl z, rfl, (e1.trans e2) _ _ h, rfl, hv, k H2 (e1.trans e2)⟩
/-- a lock is taken and given back -/
theorem ex_unlock {H H2 : Hp} {u : HO} {od : Obj} (hd : H d = some u) (e : Ex (upd H d (.frz od u)) H2) : Ex H (upd H2 d u) := fun a o h => by
  by_cases ha : a = d
  · rw [ha, upd_same, ← hd, ← ha]
    exact h
  · rw [upd_ne ha]
    exact e _ _ (by rw [upd_ne ha]; exact h)
theorem ev_lock {u : HO} (hd : H d = some u) (mu : Mut (some u)) (h : ∀ od H1, Ex H H1 → Ev te σ (upd H1 d (.frz od u)) v) : Ev (tLockE te) σ H v := fun H1 e Q q =>
  ⟨d, u, e _ _ hd, mu, fun od => h od H1 e _ (Ex.refl _) _ fun H2 e2 => ⟨e2 _ _ upd_same, q _ (ex_unlock (e _ _ hd) e2)⟩⟩
/-- over the values of a dict -/
theorem ev_gxV {P : Addr} {okc : Nat → (Nat → V) → V → Prop} {vals : Nat → V} {r : V} {j : Nat} {vs : List Nat} (hd : H d = some (.dK kvs)) (h : ∀ od H1, Ex H H1 → Ev tl σ (upd H1 d (.frz od (.dK kvs))) (.ref d)) (hT : Tab H P) (hPd : P ≠ d) (ok : okc kvs.length vals r) (hw : ∀ x, wipe ((wipe σ vs).set j (some x)) vs = wipe σ vs)
    (he : ∀ (i : Nat) (k : Key) (x : V) od H1 H2, Ex H H1 → Ex (upd H1 d (.frz od (.dK kvs))) H2 → kvs[i]? = some (k, x) → Ev te ((wipe σ vs).set j (some x)) H2 (vals i)) : Ev (tLockE (tGX P okc (iVals tl) (gName j) te vs)) σ H r :=
  ev_lock hd True.intro fun od H0 e0 H1 e1 Q q => h od H0 e0 H1 e1 _ fun H2 e2 => by
    have e12 := e1.trans e2
    refine ⟨d, od, kvs, rfl, e12 _ _ upd_same, e12 _ _ (by rw [upd_ne hPd]; exact e0 _ _ hT), kvs.length, vals, r, fun _ H' => Ex H2 H', ok, Ex.refl _, fun i H' hi w => ⟨⟨w _ _ (e12 _ _ upd_same), hi⟩, fun x H3 hy => ?_⟩, fun H' w => ⟨w _ _ (e12 _ _ upd_same), Nat.le_refl _⟩, fun i H' _ w => q H' (e2.trans w)⟩
    obtain ⟨rfl, k, hk⟩ := hy
    exact ⟨hw x, he i k x od H0 _ e0 (e12.trans w) hk _ (Ex.refl _) _ fun H4 e4 => ⟨rfl, w.trans e4⟩⟩
/-- sorted(d): the keys, each once -/
theorem el_sortedD {ks : List Int} {ns : List Int} (h : Ev te σ H (.ref d)) (hd : H d = some (.dK kvs)) (hks : kvs.map (·.1) = ks.map Sum.inl) (h64 : ks.length < 64) (hs : ∀ ys : List Int, ys.Perm ks → ys.Pairwise (· ≤ ·) → ys = ns) : EvL (tCB (fun xs H Q => ∃ (a : Addr) (kvs : List (Key × V)) (ks : List Int), xs = [.ref a] ∧ Rd H a (.dK kvs) ∧ kvs.map (·.1) = ks.map Sum.inl ∧ ks.length < 64 ∧
    ∀ (ys : List Int) (p : Addr), ys.Perm ks → ys.Pairwise (· ≤ ·) → H p = none → Q (.ref p) (upd H p (.lst (ys.map V.int)))) (tCons te tNil)) σ H (ns.map V.int) := fun H1 e Q q =>
  h H1 e _ fun H2 e2 => ⟨d, kvs, ks, rfl, .inl (e2 _ _ (e _ _ hd)), hks, h64, fun ys p h1 h2 hp => q p _ (fresh_back e2 hp) (e2.trans (Ex.new hp)) (by rw [upd_same, hs ys h1 h2])⟩
end
/-- a sorted list of the same numbers is the same list -/
theorem sorted_uni : ∀ {a b : List Int}, a.Perm b → a.Pairwise (· ≤ ·) → b.Pairwise (· ≤ ·) → a = b
  | [], b, p, _, _ => p.nil_eq
  | x :: r, b, p, h1, h2 => by
    cases b with
    | nil => exact absurd p.symm.nil_eq (by simp)
    | cons y t =>
      have hx : x ∈ y :: t := p.mem_iff.mp List.mem_cons_self
      have hy : y ∈ x :: r := p.mem_iff.mpr List.mem_cons_self
      have e : x = y := by
        rcases List.mem_cons.mp hx with e | hx
        · exact e
        · rcases List.mem_cons.mp hy with e | hy
          · exact e.symm
          · have a1 := (List.pairwise_cons.mp h1).1 y hy
            have a2 := (List.pairwise_cons.mp h2).1 x hx
            omega
      subst e
      rw [sorted_uni (p.cons_inv) (List.pairwise_cons.mp h1).2 (List.pairwise_cons.mp h2).2]
/-! ### the keys of a dict that is put to, that is dropped from -/
theorem put_keys {kvs : List (Key × V)} {k : Key} {v : V} (h : valV kvs k = none) : putK kvs k v = kvs ++ [(k, v)] := by
  unfold putK
  rw [valV_any, h]
  rfl
theorem valV_drop (kvs : List (Key × V)) (k j : Key) : valV (dropK kvs k) j = if j = k then none else valV kvs j := by
  induction kvs with
  | nil =>
    show valV [] j = _
    rw [valV_nil]
    split <;> rfl
  | cons p r ih =>
    unfold dropK at ih ⊢
    by_cases hp : p.1 = k
    · rw [List.filter_cons_of_neg (by simpa using hp), ih]
      by_cases hj : j = k
      · rw [if_pos hj, if_pos hj]
      · rw [if_neg hj, if_neg hj, valV_neg (fun e => hj (by rw [← e, hp]))]
    · rw [List.filter_cons_of_pos (by simpa using hp)]
      by_cases hj : p.1 = j
      · rw [valV_pos hj, valV_pos hj, if_neg (fun e => hp (by rw [hj, e]))]
      · rw [valV_neg hj, valV_neg hj, ih]
end LD

set_option Elab.async false
set_option linter.all false
set_option maxRecDepth 100000
set_option maxHeartbeats 4000000
namespace LZ
open PySem PySem.Spec PyProof.Rows L2 Evl LT LG LH LP StX
/-! ### zip of a tuple and a list -/
def ItM (K : PySem.W.Frag) (a b : Addr) : It where
  go := fun i H => ∃ (us vs : List V) (m n : V), SqT K H a us ∧ SqL K H b vs ∧ us[i]? = some m ∧ vs[i]? = some n
  yld := fun i H v G => ∃ T m n, v = .ref T ∧ H T = none ∧ G = upd H T (.tup [m, n]) ∧ (∀ us, SqT K H a us → us[i]? = some m) ∧ ∀ vs, SqL K H b vs → vs[i]? = some n
  stop := fun i H => ∃ us vs : List V, SqT K H a us ∧ SqL K H b vs ∧ i ≤ us.length ∧ i ≤ vs.length ∧ (i = us.length ∨ i = vs.length)
theorem sep_of {z TI TO i1 i2 a b : Addr} (D : ZipApart z TI TO i1 i2 a b) : ZipSep2 z TI TO i1 i2 [i1, a] [i2, b] where
  TIz := D.TIz
  TOz := D.TOz
  TITO := D.TITO
  TIi1 := D.TIi1
  mem1 := List.mem_cons_self
  zf1 := by simp [D.i1z.symm, D.l1z.symm]
  Tf1 := by simp [D.TOi1, D.l1TO.symm]
  TIi2 := D.TIi2
  mem2 := List.mem_cons_self
  zf2 := by simp [D.i2z.symm, D.l2z.symm]
  Tf2 := by simp [D.TOi2, D.l2TO.symm]
  sep1_2 := by simp [D.i12, D.l2i1.symm]
  sep2_1 := by simp [D.i12.symm, D.l1i2.symm]
def stM (z TI TO i1 i2 a b : Addr) (k : Nat) (g : Heap) : Prop := IsZip g z TI TO .none ∧ IsTupOf2 g TI (.ref i1) (.ref i2) ∧ (∃ m n, IsTupOf2 g TO m n) ∧ g.IsTupleIter i1 a k ∧ g.IsListIter i2 b k
theorem in5 {c z TI TO i1 i2 : Addr} (h : c ∈ [z, TI, TO, i1, i2]) : c = z ∨ c = TI ∨ c = TO ∨ c = i1 ∨ c = i2 := by
  simpa only [List.mem_cons, List.not_mem_nil, or_false] using h
theorem turn_zipM {P : Program} {w : World} {K : PySem.W.Frag} {elts : List Expr} {kk : Nat} {tpos : Pos} {a b z TI TO i1 i2 : Addr} (D : ZipApart z TI TO i1 i2 a b) : Turn P w K (.Tuple elts kk tpos) (ItM K a b) [z, TI, TO, i1, i2] z (stM z TI TO i1 i2 a b) where
  mem := List.mem_cons_self
  obj := by
    rintro k g ⟨A1, A2, ⟨m, n, A3⟩, ⟨u1, B1, -, C1⟩, ⟨u2, B2, -, C2⟩⟩ c hc
    rcases in5 hc with rfl | rfl | rfl | rfl | rfl
    · exact ⟨_, A1, fun v e => by cases e⟩
    · exact ⟨_, A2, fun v e => by cases e⟩
    · exact ⟨_, A3, fun v e => by cases e⟩
    · exact ⟨u1, B1, fun v e => by rw [C1] at e; cases e⟩
    · exact ⟨u2, B2, fun v e => by rw [C2] at e; cases e⟩
  keep := by
    rintro k g g' ⟨A1, A2, ⟨m, n, A3⟩, B1, B2⟩ kp
    exact ⟨kp z (by simp) _ A1, kp TI (by simp) _ A2, ⟨m, n, kp TO (by simp) _ A3⟩, B1.at (kp i1 (by simp)), B2.at (kp i2 (by simp))⟩
  item := by
    rintro X rfl rfl rfl hC k pins st τ G E Iv fpo ⟨A1, A2, ⟨m0, n0, A3⟩, B1, B2⟩ ⟨us, vs, m, n, qa, qb, em, en⟩
    have hh : X.A.in1.handled = none := Iv.ok.hd hC
    obtain ⟨ia, ra, ta, -⟩ := Iv.tuple qa
    obtain ⟨ib, rb, lb, -⟩ := Iv.list qb
    obtain ⟨u, hu, ru⟩ := ra.get em
    obtain ⟨v, hv, rv⟩ := rb.get en
    have zl := Heap.lt_size A1
    have ka : k < ia.toArray.size := by
      have := (List.getElem?_eq_some_iff.mp hu).1
      simpa using this
    have kb : k < ib.toArray.size := by
      have := (List.getElem?_eq_some_iff.mp hv).1
      simpa using this
    refine wpAny_pyNext_zipD2_item (sep_of D) (Draws.tuple hh i1 a D.l1i1 ia.toArray) (Draws.list hh i2 b D.l2i2 ib.toArray) A1 A2 A3 ⟨B1, ta⟩ ⟨B2, lb.isList⟩ ka kb fun x1 x2 g tk e1 e2 z1 O1 S1 S2 hT hs kp => ?_
    obtain rfl : u = x1 := by
      have : some u = some x1 := by rw [← hu, ← e1]; simp
      exact Option.some.inj this
    obtain rfl : v = x2 := by
      have : some v = some x2 := by rw [← hv, ← e2]; simp
      exact Option.some.inj this
    refine ⟨_, rfl, wpAny_letOwnedTupleGo_zip (s := { st with heap := g, toks := tk }) z1 fun g2 z2 sb => ?_⟩
    have hT2 : IsTupOf2 g2 st.heap.objs.size u v := (sb.2 _ (Nat.ne_of_gt zl)).trans hT
    have nw : ObjOk X.prog X.w (upd G st.heap.objs.size (.tup [m, n])) g2 st.heap.objs.size (.tup [m, n]) := ⟨Nat.le_of_ble_eq_true rfl, [u, v], .cons ru (.cons rv .nil), _, hT2, rfl, _, rfl⟩
    have old : ∀ c o, c ∉ [z, TI, TO, i1, i2] → st.heap.get? c = some o → g2.get? c = some o := fun c o hc e => by
      simp only [List.mem_cons, List.not_mem_nil, or_false, not_or] at hc
      exact (sb.2 c hc.1).trans (kp c o hc.1 hc.2.2.1 hc.2.2.2.1 hc.2.2.2.2 e)
    have I1 : Inv X pins τ (upd G st.heap.objs.size (.tup [m, n])) { st with heap := g2, toks := tk } := Iv.turnedNew (t' := tk) old fpo (Nat.le_refl _) nw
    refine ⟨.ref _, _, I1, rfl, ⟨_, m, n, rfl, Iv.hok.fresh (Nat.le_refl _), rfl, fun l hl => by rw [Iv.tuple_inj hl qa]; exact em, fun l hl => by rw [Iv.list_inj hl qb]; exact en⟩, ⟨z2, (sb.2 _ D.TIz).trans (kp _ _ D.TIz D.TITO D.TIi1 D.TIi2 A2), ⟨u, v, (sb.2 _ D.TOz).trans O1⟩, S1.1.at fun o e => (sb.2 _ D.i1z).trans e, S2.1.at fun o e => (sb.2 _ D.i2z).trans e⟩, fun c hc => ?_⟩
    have cl : c < st.heap.objs.size := by
      rcases in5 hc with rfl | rfl | rfl | rfl | rfl
      · exact zl
      · exact Heap.lt_size A2
      · exact Heap.lt_size A3
      · obtain ⟨_, e, _⟩ := B1
        exact Heap.lt_size e
      · obtain ⟨_, e, _⟩ := B2
        exact Heap.lt_size e
    rw [upd_ne (Nat.ne_of_lt cl)]
    exact (fpo c hc).1
  done := by
    rintro X rfl rfl rfl hC k pins st τ G E Iv fpo ⟨A1, A2, ⟨m0, n0, A3⟩, B1, B2⟩ ⟨us, vs, qa, qb, la, lb', en⟩
    have hh : X.A.in1.handled = none := Iv.ok.hd hC
    obtain ⟨ia, ra, ta, -⟩ := Iv.tuple qa
    obtain ⟨ib, rb, lb, -⟩ := Iv.list qb
    have r1 := ra.length
    have r2 := rb.length
    refine wpAny_pyNext_zipD2_end (sep_of D) (Draws.tuple hh i1 a D.l1i1 ia.toArray) (Draws.list hh i2 b D.l2i2 ib.toArray) A1 A2 A3 ⟨B1, ta⟩ ⟨B2, lb.isList⟩ (by simp; omega) (by simp; omega) (by simp; omega) fun g tk kp => ⟨rfl, Iv.turnedL (t' := tk) (ch := [z, TI, TO, i1, i2]) (fun c o hc e => ?_) fpo⟩
    simp only [List.mem_cons, List.not_mem_nil, or_false, not_or] at hc
    exact kp c o hc.1 hc.2.2.1 hc.2.2.2.1 hc.2.2.2.2 e
  self := fun _ _ _ _ _ t q => wpAny_pyIter_zip t.1 q
def iZipM (K : PySem.W.Frag) (ta : TA) : TI := fun σ H R => ta σ H fun xs G => ∃ a b us vs, xs = [.ref a, .ref b] ∧ SqT K G a us ∧ SqL K G b vs ∧ R (ItM K a b) G
theorem pi_zipM {X : Cx} {e1 e2 : Expr} {ta : TA} {p pos tpos : Pos} {elts : List Expr} {kk : Nat} (hg : Gl X "zip") (hm : X.mg "zip" = none) (ha : PA X [e1, e2] ta)
    (hs : starEach [e1, e2] X.env = (false, eval e1 X.env) :: starEach [e2] X.env := by rfl) (hp : (backTo pos (starEach [e2] X.env)).any (·.1) = false := by rfl) : PI X (.Tuple elts kk tpos) (.Call (.Name "zip" p) [e1, e2] [] pos) (iZipM X.K ta) where
  run := fun pins s σ H R I h => by
    refine Call_ (ld_blt I hg hm boot_zip (callWith_type1 (thn (ha.run pos pins s σ H _ I h) fun us st ⟨xs, G, Iv, rs, q⟩ => ?_) hs hp))
    obtain ⟨a, b, ua, vb, rfl, qa, qb, q⟩ := q
    cases rs with
    | cons r1 rs =>
      cases rs with
      | cons r2 rs =>
        cases rs
        cases r1
        cases r2
        obtain ⟨ia, ra, ta', -⟩ := Iv.tuple qa
        obtain ⟨ib, rb, lb, -⟩ := Iv.list qb
        obtain ⟨oa, ga, -⟩ := id ta'
        have al := Heap.lt_size ga
        refine zip_begins2 (begins_tuple a ia.toArray) (begins_list b ib.toArray) ta' lb.isList fun g z1 T1 O1 g1 g2 hs kp => wpAny_pyIter_zip z1 ?_
        have I2 : Inv X pins σ G { st with heap := g } := Iv.kept (t' := st.toks) kp
        refine ⟨_, [st.heap.objs.size + 4, st.heap.objs.size + 2, st.heap.objs.size + 3, st.heap.objs.size, st.heap.objs.size + 1], _, _, G, rfl, I2, turn_zipM (PySem.W.ktu_apart st.heap.objs.size a b al lb.lt), ⟨z1, T1, ⟨_, _, O1⟩, ⟨_, g1, rfl, rfl⟩, ⟨_, g2, rfl, rfl⟩⟩, fun c hc => ?_, q⟩
        have cl : st.heap.objs.size ≤ c := by
          rcases in5 hc with rfl | rfl | rfl | rfl | rfl <;> first | exact Nat.le_refl _ | exact Nat.le_add_right _ _
        exact Iv.fpOk cl (Iv.hok.fresh cl)
section
variable {K : PySem.W.Frag} {σ : L2.St} {H : Hp} {te : TE} {ta : TA} {P a b : Addr} {us xs : List V} {okc : Nat → (Nat → V) → V → Prop} {vals : Nat → V} {r : V} {j j2 : Nat} {vs : List Nat}
theorem ev_gxM {n : Nat} (h : EvA ta σ H [.ref a, .ref b]) (ha : SqT K H a us) (hb : SqL K H b xs) (hn : n = us.length) (hl : us.length ≤ xs.length) (hT : Tab H P) (ok : okc n vals r) (hw : ∀ x y, wipe (((wipe σ vs).set j (some x)).set j2 (some y)) vs = wipe σ vs)
    (he : ∀ (i : Nat) (x y : V) H1, Ex H H1 → us[i]? = some x → xs[i]? = some y → Ev te (((wipe σ vs).set j (some x)).set j2 (some y)) H1 (vals i)) : Ev (tGX P okc (iZipM K ta) (gTup K 2 (gCons (gName j) (gCons (gName j2) gNil))) te vs) σ H r := fun H1 e Q q =>
  h H1 e _ fun H2 e2 => by
    have s1 : ∀ {B : Hp}, Ex H2 B → SqT K B a us := fun w => ex_t ((e.trans e2).trans w) ha
    have s2 : ∀ {B : Hp}, Ex H2 B → SqL K B b xs := fun w => ex_l ((e.trans e2).trans w) hb
    refine ⟨a, b, us, xs, rfl, s1 (Ex.refl _), s2 (Ex.refl _), hT.mono (e.trans e2), n, vals, r, fun _ B => Ex H2 B, ok, Ex.refl _, fun i B hi w => ⟨⟨us, xs, us[i]'(by omega), xs[i]'(by omega), s1 w, s2 w, List.getElem?_eq_getElem _, List.getElem?_eq_getElem _⟩, fun x B2 hz => ?_⟩, fun B w => ⟨us, xs, s1 w, s2 w, by omega, by omega, .inl hn⟩, fun i B _ w => q B (e2.trans w)⟩
    obtain ⟨T, x1, y1, rfl, hT1, rfl, h1, h2⟩ := hz
    have e3 := ((e.trans e2).trans w).trans (Ex.new (o := .tup [x1, y1]) hT1)
    exact ⟨T, _, rfl, st_of upd_same, rfl, _, _, rfl, _, _, rfl, rfl, hw x1 y1, he i x1 y1 _ e3 (h1 us (s1 w)) (h2 xs (s2 w)) _ (Ex.refl _) _ fun B4 e4 => ⟨rfl, (w.trans (Ex.new hT1)).trans e4⟩⟩
end
/-! ### a, *b = a tuple -/
section
variable {X : Cx} {pos : Pos}
theorem pgs_star {t : Expr} {es : List Expr} {g : TG} {u : TGs} {p : Pos} (h1 : PG X t g) (h2 : PGs X es u) (hs : (assignEach (.Starred t p :: es) X.env).map (·.2) = assign t X.env :: (assignEach es X.env).map (·.2) := by rfl) : PGs X (.Starred t p :: es) (gCons g u) where
  run := fun pins s σ H vs us Q I r h => by
    obtain ⟨v, vr, rfl, h⟩ := h
    cases r with
    | cons r rr =>
      rw [hs]
      exact assignInOrder_cons (thn (h1.run pins s σ H _ _ _ I r h) fun _ s1 ⟨σ1, H1, I1, q1⟩ => h2.run pins s1 σ1 H1 _ _ Q I1 rr q1)
/-- one name, then the rest as a new list -/
def gStar (K : PySem.W.Frag) (t : TGs) : TG := fun v σ H Q => ∃ a x xs, v = .ref a ∧ SqT K H a (x :: xs) ∧ xs.length ≤ 10000 ∧ ∀ L, H L = none → t [x, .ref L] σ (upd H L (.lst xs)) Q
theorem pg_star {es : List Expr} {k : Nat} {t : TGs} (hc : X.calm = true) (h : PGs X es t) (hn : (assignEach es X.env).length = 2 := by rfl) (hst : (assignEach es X.env).findIdx? (·.1) = some 1 := by rfl) : PG X (.Tuple es k pos) (gStar X.K t) where
  run := fun pins s σ H v u Q I r hw => by
    obtain ⟨a, x, xs, rfl, hq, hz, hw⟩ := hw
    cases r
    obtain ⟨its, rv, ht, -⟩ := I.tuple hq
    have hh : X.A.handled = none := I.ok.hd hc
    have ht : IsTup s.heap a its.toArray := ht
    cases rv with
    | @cons _ y _ ys r1 rs =>
      have ln := rs.length
      rw [assign_Tuple]
      refine wpAny_bind (wpAny_standAt (?_ : wpAny _ _ (unpack _ _) _ _ _))
      unfold unpack
      rw [hn, hst]
      obtain ⟨ao, hao, -⟩ := id ht
      have al := Heap.lt_size hao
      have ane : a ≠ s.heap.objs.size := Nat.ne_of_lt al
      refine wpAny_bind (wpAny_holding (?_ : wpAny _ _ (unpackItems _ _ _) _ _ _))
      unfold unpackItems notIterableAtAll
      refine wpAny_bind (wpAny_bind (wpAny_specialOf ht.typeIs slot_tuple_iter.lookup (wpAny_pure ?_)))
      simp only [Option.isSome_some, if_true, if_false, Bool.false_eq_true]
      refine wpAny_bind (wpAny_holding (iter_tuple ht (?_ : _)))
      refine wpAny_bind (wpAny_holding (draw_tuple ane 1 0 _ _ ⟨_, Heap.get?_push_size _ rfl, rfl, rfl⟩ (ht.push _) (by simp) fun g1 t1 s1 => ?_))
      have ht1 : IsTup g1 a (y :: ys).toArray := (ht.push _).extBut s1.extBut ane
      obtain ⟨o1, ho1, -⟩ := id t1
      obtain ⟨o2, ho2, -⟩ := id ht1
      rw [show List.take 1 (List.drop 0 (y :: ys).toArray.toList) = [y] from rfl, if_neg (show ¬ [y].length < 1 from Nat.lt_irrefl 1)]
      refine wpAny_bind (wpAny_holding (PySem.W.kun_collect (s := { s with heap := g1 }) (T := "tuple_iterator") (.inr (.inr (.inr rfl))) (Walks.tuple (A := X.A.in1) (show X.A.in1.handled = none from hh) s.heap.objs.size a ane (y :: ys).toArray) (fun _ _ q => q.1.typeIs) (k := 1) (by simp) ⟨t1, ht1⟩ (Heap.lt_size ho1) (Heap.lt_size ho2) (fun g2 tk kp => ?_) (by simp; exact sz_of (by omega))))
      rw [show (y :: ys).toArray.toList.drop 1 = ys from rfl]
      rw [if_neg (show ¬ ys.length < 2 - 1 - 1 by omega)]
      have k2 : ∀ b o, s.heap.get? b = some o → g2.get? b = some o := fun b o e => by
        have bl := Heap.lt_size e
        exact kp b o (Nat.ne_of_lt bl) (s1.extBut b o (Nat.ne_of_lt bl) (Heap.get?_push_of_some _ e))
      have I2 : Inv X pins σ H { s with heap := g2, toks := tk } := I.kept (t' := tk) k2
      rw [show ys.length - (2 - 1 - 1) = ys.length from rfl, List.take_length, List.drop_length]
      refine wpAny_bind (m := newList ys) (wpAny_newObj_type (T := "list") ?_ (by show ys.toArray.size ≤ sizeLine; rw [List.size_toArray]; exact sz_of (by omega)))
      refine wpAny_pure ?_
      have fr : H g2.objs.size = none := I2.hok.fresh (Nat.le_refl _)
      have I3 : Inv X pins σ (upd H g2.objs.size (.lst xs)) { s with heap := g2.push { cls := .type "list", data := .seq ys.toArray }, toks := tk } := I2.laid (t' := tk) (fun b u e => Heap.get?_push_of_some _ e) (Nat.le_refl _) ⟨sz_of (by omega), ys, 0, rs, Heap.get?_push_size _ rfl⟩
      exact h.run pins _ σ _ [x, .ref _] [y, .ref _] Q I3 (.cons r1 (.cons rfl .nil)) (hw _ fr)
end
end LZ

set_option Elab.async false
set_option linter.all false
set_option maxRecDepth 100000
set_option maxHeartbeats 4000000
namespace LW
open PySem PySem.Spec PyProof.Rows L2 Evl LT
/-! ### a written dict: numbers to tuples of texts -/
def strsB : List Value → List Str → Bool
  | [], [] => true
  | .str x _ :: us, z :: zs => decide (x = z) && strsB us zs
  | _, _ => false
theorem strsB_ok : ∀ {us : List Value} {zs : List Str}, strsB us zs = true → Vals (zs.map V.str) us
  | [], [], _ => .nil
  | .str x t :: us, z :: zs, h => by
    have h2 := Bool.and_eq_true_iff.mp (show (decide (x = z) && strsB us zs) = true from h)
    obtain rfl : x = z := of_decide_eq_true h2.1
    exact .cons ⟨t, rfl⟩ (strsB_ok h2.2)
def tupB (K : PySem.W.Frag) (v : Value) (zs : List Str) : Bool := match v with
  | .ref t => match K.lookup t with
    | some o => decide (o.cls = .type "tuple") && match o.data with
      | .seq its _ => decide (its.size ≤ 1000) && strsB its.toList zs
      | _ => false
    | none => false
  | _ => false
theorem tupB_ok {K : PySem.W.Frag} {v : Value} {zs : List Str} (h : tupB K v zs = true) : ∃ t, v = .ref t ∧ ∀ H, SqT K H t (zs.map V.str) := by
  unfold tupB at h
  split at h
  · rename_i t
    split at h
    · rename_i o ho
      obtain ⟨h1, h⟩ := Bool.and_eq_true_iff.mp h
      split at h
      · rename_i its n hd
        obtain ⟨h2, h3⟩ := Bool.and_eq_true_iff.mp h
        exact ⟨t, rfl, fun H => .inr ⟨o, its, n, ho, of_decide_eq_true h1, hd, Nat.le_trans (of_decide_eq_true h2) (by decide), strsB_ok h3⟩⟩
      · cases h
    · cases h
  · cases h
abbrev Wks := List (Int × List Str)
def getW (kvs : Wks) (i : Int) : Option (List Str) := (kvs.find? fun kv => decide (kv.1 = i)).map (·.2)
def entsB (K : PySem.W.Frag) : List DictEntry → Wks → Bool
  | [], [] => true
  | e :: es, kv :: kvs => Value.isInt kv.1 e.key && (decide (e.hash = hashInt kv.1) && (tupB K e.val kv.2 && entsB K es kvs))
  | _, _ => false
def dictB (K : PySem.W.Frag) (a : Addr) (kvs : Wks) : Bool := match K.lookup a with
  | some o => decide (o.cls = .type "dict") && (o.dict.isNone && (o.slots.isEmpty && (!(a == sysModules) && match o.data with
    | .dict es _ => entsB K es.toList kvs
    | _ => false)))
  | none => false
structure WI (K : PySem.W.Frag) (a : Addr) (kvs : Wks) : Prop where
  ok : dictB K a kvs = true
  nd : (kvs.map (·.1)).Nodup
theorem ents_ok {P : Program} {w : World} {K : PySem.W.Frag} : ∀ {es : List DictEntry} {kvs : Wks}, entsB K es kvs = true → ∃ vs : List (Key × Value), (∀ e ∈ es, ∃ k, (mixKind P w).is k e.key = true ∧ e.hash = (mixKind P w).hash k) ∧ Pairs (mixKind P w) es vs ∧ vs.map (·.1) = kvs.map (fun kv => (Sum.inl kv.1 : Key)) ∧
    ∀ i : Int, (getW kvs i = none ∧ valueAt vs (.inl i) = none) ∨ ∃ zs t, getW kvs i = some zs ∧ valueAt vs (.inl i) = some (.ref t) ∧ ∀ H, SqT K H t (zs.map V.str)
  | [], [], _ => ⟨[], fun e he => (by cases he), .nil, rfl, fun i => .inl ⟨rfl, rfl⟩⟩
  | e :: es, kv :: kvs, h => by
    obtain ⟨h1, h⟩ := Bool.and_eq_true_iff.mp (show (Value.isInt kv.1 e.key && (decide (e.hash = hashInt kv.1) && (tupB K e.val kv.2 && entsB K es kvs))) = true from h)
    obtain ⟨h2, h⟩ := Bool.and_eq_true_iff.mp h
    obtain ⟨h3, h⟩ := Bool.and_eq_true_iff.mp h
    obtain ⟨vs, v1, v2, v3, v4⟩ := ents_ok (P := P) (w := w) h
    obtain ⟨t, ht, hq⟩ := tupB_ok h3
    have hk : (mixKind P w).is (Sum.inl kv.1) e.key = true := h1
    refine ⟨(.inl kv.1, e.val) :: vs, fun x hx => ?_, .cons hk rfl v2, by rw [List.map_cons, List.map_cons, v3], fun i => ?_⟩
    · rcases List.mem_cons.mp hx with rfl | hx
      · exact ⟨_, hk, of_decide_eq_true h2⟩
      · exact v1 x hx
    · unfold getW valueAt at *
      by_cases c : kv.1 = i
      · subst c
        refine .inr ⟨kv.2, t, by rw [List.find?_cons_of_pos (by simp)]; rfl, ?_, hq⟩
        rw [List.find?_cons_of_pos (by simp), ← ht]
        rfl
      · rw [List.find?_cons_of_neg (by simpa using c), List.find?_cons_of_neg (by simpa using fun e : (Sum.inl kv.1 : Key) = Sum.inl i => c (Sum.inl.inj e))]
        exact v4 i
theorem nodup_inl {l : Wks} (h : (l.map (·.1)).Nodup) : (l.map (fun kv => (Sum.inl kv.1 : Key))).Nodup := by
  have : l.map (fun kv => (Sum.inl kv.1 : Key)) = (l.map (·.1)).map Sum.inl := by rw [List.map_map]; rfl
  rw [this]
  exact List.pairwise_map.mpr (h.imp fun a b => a (Sum.inl.inj b))
theorem wi_dd {X : Cx} {d : Addr} {kvs : Wks} (D : WI X.K d kvs) {pins : List (Addr × Obj)} {σ : L2.St} {H : Hp} {s : Shared} (I : Inv X pins σ H s) : (d == sysModules) = false ∧ ∃ vs : List (Key × Value), s.heap.DictOf (mixKind X.prog X.w) d vs ∧
    ∀ i : Int, (getW kvs i = none ∧ valueAt vs (.inl i) = none) ∨ ∃ zs t, getW kvs i = some zs ∧ valueAt vs (.inl i) = some (.ref t) ∧ ∀ H, SqT X.K H t (zs.map V.str) := by
  have h := D.ok
  unfold dictB at h
  split at h
  · rename_i o ho
    obtain ⟨h1, h⟩ := Bool.and_eq_true_iff.mp h
    obtain ⟨h2, h⟩ := Bool.and_eq_true_iff.mp h
    obtain ⟨h3, h⟩ := Bool.and_eq_true_iff.mp h
    obtain ⟨h4, h⟩ := Bool.and_eq_true_iff.mp h
    split at h
    · rename_i es n hd
      obtain ⟨vs, v1, v2, v3, v4⟩ := ents_ok (P := X.prog) (w := X.w) h
      refine ⟨by simpa using h4, vs, ⟨o, es, n, I.kIn _ _ ho, ⟨of_decide_eq_true h1, by simpa using h2, by simpa using h3⟩, hd, fun e he => v1 e (Array.mem_toList_iff.mpr he), v2, by rw [v3]; exact nodup_inl D.nd⟩, v4⟩
    · cases h
  · cases h
def rNiW (K : PySem.W.Frag) : R2 := fun x y H Q => ∃ (i : Int) (d : Addr) (kvs : Wks), x = .int i ∧ y = .ref d ∧ WI K d kvs ∧ Q (.bl (!(getW kvs i).isSome)) H
def rIxW (K : PySem.W.Frag) : R2 := fun x y H Q => ∃ (i : Int) (d : Addr) (kvs : Wks) (zs : List Str), x = .ref d ∧ y = .int i ∧ WI K d kvs ∧ getW kvs i = some zs ∧ ∀ t, (∀ H', SqT K H' t (zs.map V.str)) → Q (.ref t) H
section
variable {X : Cx}
theorem op_notIn_wi : OpR X (compareOp .NotIn) (rNiW X.K) := by
  rintro pins s σ H x y v u Q I rx ry ⟨i, d, kvs, rfl, rfl, D, q⟩
  obtain ⟨lo, vs, dd, hv⟩ := wi_dd D I
  cases ry
  refine wpAny_notIn_of (kV_is (k := Sum.inl i) rx) lo dd.mapOf ?_
  have e : (valueAt vs (Sum.inl i : Key)).isSome = (getW kvs i).isSome := by
    rcases hv i with ⟨a, b⟩ | ⟨zs, t, a, b, _⟩ <;> rw [a, b] <;> rfl
  rw [e]
  exact ⟨.bl _, H, I.tok _, rfl, q⟩
theorem ix_wi : IxR X (rIxW X.K) := by
  rintro value slice pins s σ H x y v u Q I rx ry ⟨i, d, kvs, zs, rfl, rfl, D, hz, q⟩ hs
  obtain ⟨lo, vs, dd, hv⟩ := wi_dd D I
  cases rx
  rcases hv i with ⟨a, _⟩ | ⟨zs', t, a, b, hq⟩
  · rw [hz] at a
    cases a
  · rw [hz] at a
    cases a
    exact tail_any dd.mapOf.typeIs PySem.F.slot_dict_getitem.lookup (wpAny_getItem_of (kV_is (k := Sum.inl i) ry) dd.mapOf b ⟨.ref t, H, I.tok _, rfl, q t hq⟩) hs
end
section
variable {K : PySem.W.Frag} {H : Hp} {i : Int} {d : Addr} {kvs : Wks}
theorem rv_niW (D : WI K d kvs) : RV (rNiW K) (.int i) (.ref d) H (.bl (!(getW kvs i).isSome)) := rv_val fun _ _ Q q => ⟨i, d, kvs, rfl, rfl, D, q⟩
end
/-! ### any(a list of numbers) -/
def anyN (ns : List Int) : Bool := (List.range ns.length).any fun i => !decide (ns.getD i 0 = 0)
def rAnyN (K : PySem.W.Frag) : List V → Hp → VK → Prop := fun vs H Q => ∃ (a : Addr) (ns : List Int), vs = [V.ref a] ∧ SqL K H a (ns.map V.int) ∧ Q (.bl (anyN ns)) H
theorem truth_ints {prog : Program} {w : World} {A : Around} {ns : List Int} {its : List Value} (e : Vals (ns.map V.int) its) : TruthOf prog w A (fun i v => its.toArray[i]? = some v) (fun i => !decide (ns.getD i 0 = 0)) := fun i v s Q E hv hq => by
  have hv' : its[i]? = some v := by simpa using hv
  have hl : i < ns.length := by
    have h1 := (List.getElem?_eq_some_iff.mp hv').1
    have h2 := e.length
    rw [List.length_map] at h2
    omega
  obtain ⟨u, hu, ru⟩ := e.get (show (ns.map V.int)[i]? = some (.int ns[i]) by rw [List.getElem?_map, List.getElem?_eq_getElem hl]; rfl)
  rw [hv'] at hu
  cases hu
  obtain ⟨t, rfl⟩ := (show ∃ t, v = Value.int ns[i] t from ru)
  have hg : ns.getD i 0 = ns[i] := by rw [List.getD_eq_getElem?_getD, List.getElem?_eq_getElem hl]; rfl
  have hq' : Q (!decide (ns.getD i 0 = 0)) s := hq
  rw [hg] at hq'
  refine PySem.P.truthy_int ?_
  rw [show (ns[i] != 0) = !decide (ns[i] = 0) by rw [Bool.eq_iff_iff]; simp]
  exact hq'
theorem cr_anyN {X : Cx} (hc : X.calm = true) : CallR X (.builtin "any") (rAnyN X.K) := by
  rintro pins s σ H vs us Q I r ⟨a, ns, rfl, hs, q⟩
  obtain ⟨its, rv, hl, -⟩ := I.list hs
  rw [Vals.ref1 r]
  refine call_any_walk (iter_any hl.isList fun s2 e2 st hne => ?_)
  subst e2
  refine ⟨_, _, _, _, _, _, _, rfl, Walks.list (A := X.A.in1) (I.ok.hd hc) _ a hne its.toArray, st, truth_ints rv, fun h' tk hk => ⟨.bl _, H, I.kept fun b o eo => hk b o (fun hm => ?_) (Heap.get?_push_of_some _ eo), ?_, q⟩⟩
  · rcases List.mem_cons.mp hm with e1 | hm
    · exact absurd (e1 ▸ Heap.lt_size eo) (Nat.lt_irrefl _)
    · cases hm
  · show Value.bool _ = Value.bool _
    have h2 := rv.length
    rw [List.length_map] at h2
    unfold anyN
    rw [List.size_toArray, h2]
theorem ev_anyN {K : PySem.W.Frag} {σ : L2.St} {H : Hp} {te : TE} {ns : List Int} (h : EvL te σ H (ns.map V.int)) : Ev (tCB (rAnyN K) (tCons te tNil)) σ H (.bl (anyN ns)) := fun H1 e Q q => h H1 e _ fun p H2 _ e2 h2 => ⟨p, ns, rfl, sq_of h2, q H2 e2⟩
theorem anyN_zero (n : Nat) : anyN (List.replicate n 0) = false := by
  unfold anyN
  rw [List.any_eq_false]
  intro i hi
  rw [List.mem_range, List.length_replicate] at hi
  simp [List.getD_eq_getElem?_getD, hi]
end LW

set_option Elab.async false
set_option linter.all false
set_option maxRecDepth 100000
set_option maxHeartbeats 4000000
/-! ### xs[i:j] = ys, del xs[i] -/
namespace SL
open PySem PySem.Spec PyProof.Rows L2 Evl
section
variable {X : Cx}
def gSubSl (to : TE) (tl th : TO) : TG := fun v σ H Q => to σ H fun o H1 => tl σ H1 fun a H2 => th σ H2 fun c H3 => ∃ (l b : Addr) (xs ys : List V) (i j : Nat), o = .ref l ∧ v = .ref b ∧ a = some (i : Int) ∧ c = some (j : Int) ∧ H3 l = some (.lst xs) ∧ H3 b = some (.lst ys) ∧ l ≠ b ∧ i ≤ j ∧ j ≤ xs.length ∧ xs.length + ys.length ≤ sizeLine ∧ Q σ (upd H3 l (.lst (xs.take i ++ ys ++ xs.drop j)))
theorem pg_subSl {o : Expr} {lo hi : Option Expr} {p2 pos : Pos} {to : TE} {tl th : TO} (ho : PE X o to) (hl : PO X lo tl) (hh : PO X hi th) : PG X (.Subscript o (.Slice lo hi none p2) pos) (gSubSl to tl th) := by
  refine ⟨fun pins s σ H v u Q I r h => ?_⟩
  rw [arm_assign_Subscript]
  refine wpAny_bind (wpAny_holding (thn (ho.run pins s σ H _ I h) fun ov s1 ⟨x, H1, I1, r1, q1⟩ => ?_))
  refine wpAny_bind (wpAny_holding (wpAny_Slice (thn (hl.run pins s1 σ H1 _ I1 q1) fun vl s2 ⟨l, H2, I2, pl, q2⟩ => thn (hh.run pins s2 σ H2 _ I2 q2) fun vu s3 ⟨u', H3, I3, pu, q3⟩ => ?_)))
  rw [evalPart_none]
  refine wpAny_pure ?_
  have I4 : Inv X pins σ H3 { s3 with heap := s3.heap.push { cls := .type "slice", data := .fields #[vl, vu, .none] } } := I3.kept (t' := s3.toks) fun b ob q => Heap.get?_push_of_some _ q
  obtain ⟨a, b, xs, ys, i, j, e1, e2, e3, e4, hH, hB, hne, hij, hj, hz, q⟩ := q3
  subst e1 e2 e3 e4
  cases (show ov = Value.ref a from r1)
  cases (show u = Value.ref b from r)
  obtain ⟨t1, rfl⟩ : ∃ t1, vl = Value.int (i : Int) t1 := by cases pl with | int _ t => exact ⟨t, rfl⟩
  obtain ⟨t2, rfl⟩ : ∃ t2, vu = Value.int (j : Int) t2 := by cases pu with | int _ t => exact ⟨t, rfl⟩
  have q' : Q σ (upd H3 a (.lst (xs.take ((i : Int)).toNat ++ ys ++ xs.drop ((j : Int)).toNat))) := q
  refine wpAny_bind (wpAny_standAt (wpAny_bind (wpAny_holding (set_slice I4 hH hB hne (Heap.IsSliceOf.new ..) ⟨t1, rfl⟩ ⟨t2, rfl⟩ (by omega) (by omega) (by omega) hz fun s' I' => ?_))))
  exact wpAny_release ⟨σ, _, I', q'⟩
end
section
variable {K : PySem.W.Frag} {σ : L2.St} {H : Hp} {ta te tb : TE} {tl th : TO} {D : Ends} {tz : TS}
theorem s_setSl {l : Addr} {xs ys : List V} {i j : Nat} (h : EvL te σ H ys) (ho : Ev ta σ H (.ref l)) (h1 : EvO tl σ H (some (i : Int))) (h2 : EvO th σ H (some (j : Int))) (hl : H l = some (.lst xs)) (hij : i ≤ j) (hj : j ≤ xs.length) (hz : xs.length + ys.length ≤ 100000) (k : ∀ H1, Ex H H1 → D.nx σ (upd H1 l (.lst (xs.take i ++ ys ++ xs.drop j)))) : tAsg te (gSubSl ta tl th) D σ H :=
  h H (Ex.refl H) _ fun p H1 hp e1 g1 => ho H1 e1 _ fun H2 e2 => h1 H2 (e1.trans e2) _ fun H3 e3 => h2 H3 ((e1.trans e2).trans e3) _ fun H4 e4 => by
    have x4 := ((e1.trans e2).trans e3).trans e4
    exact ⟨l, p, xs, ys, i, j, rfl, rfl, rfl, rfl, x4 _ _ hl, ((e2.trans e3).trans e4) _ _ g1, (fun z => by rw [z, hp] at hl; cases hl), hij, hj, sz_of hz, k H4 x4⟩
theorem q_setSl {l : Addr} {xs ys : List V} {i j : Nat} (h : EvL te σ H ys) (ho : Ev ta σ H (.ref l)) (h1 : EvO tl σ H (some (i : Int))) (h2 : EvO th σ H (some (j : Int))) (hl : H l = some (.lst xs)) (hij : i ≤ j) (hj : j ≤ xs.length) (hz : xs.length + ys.length ≤ 100000) (k : ∀ H1, Ex H H1 → tz D σ (upd H1 l (.lst (xs.take i ++ ys ++ xs.drop j)))) : tSeq (tAsg te (gSubSl ta tl th)) tz D σ H := s_setSl (D := { D with nx := tz D }) h ho h1 h2 hl hij hj hz k
/-- the list comes from a call -/
theorem s_setSlC {sp : Sp} {E : XK} {tA : TA} (k : tA σ H fun vs H1 => sp (vs ++ []) H1 (fun v H2 => gSubSl ta tl th v σ H2 fun σ2 H3 => D.nx σ2 H3) E) : tAsg (tCall sp [] E tA) (gSubSl ta tl th) D σ H := k
theorem s_setSlU {us : List V} (h : EvU te σ H us) (k : ∀ p L H1, H p = none → H L = none → Ex H H1 → H1 p = some (.tup us) → H1 L = some (.lst [.ref p]) → gSubSl ta tl th (.ref L) σ H1 fun σ2 H2 => D.nx σ2 H2) : tAsg (tLst (tCons te tNil)) (gSubSl ta tl th) D σ H :=
  h H (Ex.refl _) _ fun p H1 hp e1 g1 => ⟨by show 1 ≤ sizeLine; decide, fun L hL => k p L _ hp (fresh_back e1 hL) (e1.trans (Ex.new hL)) ((Ex.new hL) _ _ g1) upd_same⟩
theorem sub_fin {l b : Addr} {xs ys : List V} {i j : Nat} {Q : L2.St → Hp → Prop} (ho : Ev ta σ H (.ref l)) (h1 : EvO tl σ H (some (i : Int))) (h2 : EvO th σ H (some (j : Int))) (hl : H l = some (.lst xs)) (hb : H b = some (.lst ys)) (hne : l ≠ b) (hij : i ≤ j) (hj : j ≤ xs.length) (hz : xs.length + ys.length ≤ 100000) (k : ∀ H1, Ex H H1 → Q σ (upd H1 l (.lst (xs.take i ++ ys ++ xs.drop j)))) : gSubSl ta tl th (.ref b) σ H Q :=
  ho H (Ex.refl H) _ fun H2 e2 => h1 H2 e2 _ fun H3 e3 => h2 H3 (e2.trans e3) _ fun H4 e4 => by
    have x4 := (e2.trans e3).trans e4
    exact ⟨l, b, xs, ys, i, j, rfl, rfl, rfl, rfl, x4 _ _ hl, x4 _ _ hb, hne, hij, hj, sz_of hz, k H4 x4⟩
theorem s_delL {l : Addr} {xs : List V} {i : Nat} (ho : Ev ta σ H (.ref l)) (hi : Ev tb σ H (.int (i : Int))) (hl : H l = some (.lst xs)) (hj : i < xs.length) (hz : xs.length ≤ 100000) (k : ∀ H1, Ex H H1 → D.nx σ (upd H1 l (.lst (xs.eraseIdx i)))) : tDelL ta tb D σ H :=
  ho H (Ex.refl H) _ fun H2 e2 => hi H2 e2 _ fun H3 e3 => ⟨l, xs, (i : Int), i, rfl, rfl, (e2.trans e3) _ _ hl, by omega, by omega, by unfold seqIndex?; simp; omega, k H3 (e2.trans e3)⟩
end
end SL

set_option Elab.async false
set_option linter.all false
set_option maxRecDepth 100000
set_option maxHeartbeats 4000000
/-! ### sorted(xs) of data at any depth -/
namespace LSD
open PySem PySem.Spec PyProof.Rows L2 Evl
def leD : V × PyData → V × PyData → Bool := PySem.W.dataLe false fun b : V × PyData => b.2
def rSortedDt (K : PySem.W.Frag) : List V → Hp → VK → Prop := fun vs H Q => ∃ (a : Addr) (xs : List V) (ds : List PyData), vs = [V.ref a] ∧ SqL K H a xs ∧ DpAll K H xs ds ∧ PySem.W.AllAlike ds ∧ PySem.W.Sortable ds ∧ (∀ d ∈ ds, d.depth ≤ 8) ∧
  ∀ p, H p = none → Q (.ref p) (upd H p (.lst (((xs.zip ds).mergeSort leD).map (·.1))))
section
variable {X : Cx} {pins : List (Addr × Obj)} {σ : L2.St} {H : Hp} {s : Shared}
theorem each2 (I : Inv X pins σ H s) : ∀ {xs : List V} {ds : List PyData} {its : List Value}, DpAll X.K H xs ds → Vals xs its → PySem.W.EachIs (fun v (b : V × PyData) => RelV b.1 v) its (xs.zip ds) ∧ PySem.W.EachIs (fun v (b : V × PyData) => ∃ as, Reads s.heap v b.2 as) its (xs.zip ds) ∧ (xs.zip ds).map (·.2) = ds
  | _, _, _, .nil, .nil => ⟨.nil, .nil, rfl⟩
  | _, _, _, .cons d ds, .cons r rs => by
    obtain ⟨e1, e2, e3⟩ := each2 I ds rs
    exact ⟨.cons r e1, .cons (Dp.reads I _ _ _ d r) e2, congrArg (_ :: ·) e3⟩
theorem vals_each : ∀ {out : List Value} {bs : List (V × PyData)}, PySem.W.EachIs (fun v (b : V × PyData) => RelV b.1 v) out bs → Vals (bs.map (·.1)) out
  | _, _, .nil => .nil
  | _, _, .cons r e => .cons r (vals_each e)
theorem cr_sortedDt (hu : X.A.units + 64 < cLine) : CallR X (.builtin "sorted") (rSortedDt X.K) := by
  intro pins s σ H vs us Q I r h
  obtain ⟨a, xs, ds, rfl, hs, hd, hal, hk, hdp, q⟩ := h
  obtain ⟨its, rv, hl, hz⟩ := I.list hs
  obtain ⟨u, rfl, ru⟩ := vals1 r
  obtain rfl : u = Value.ref a := ru
  obtain ⟨e, er, e3⟩ := each2 I hd rv
  have hlen : (xs.zip ds).length = its.length := by rw [← e.length]
  refine PySem.W.sorted_data (R := fun v (b : V × PyData) => RelV b.1 v) (enc := fun b : V × PyData => b.2) (bs := xs.zip ds) hl.isList e er (by rw [e3]; exact hal) (by rw [e3]; exact hk) (by rw [hlen, ← rv.length]; exact hz) (fun b hb => ?_) fun out ho eo => ?_
  · have h1 : b.2 ∈ ds := by rw [← e3]; exact List.mem_map.mpr ⟨b, hb, rfl⟩
    have := hdp _ h1
    omega
  · have h2 : Vals (((xs.zip ds).mergeSort leD).map (·.1)) out := vals_each eo
    have h3 : (((xs.zip ds).mergeSort leD).map (·.1)).length ≤ sizeLine := by rw [h2.length, ho, hlen, ← rv.length]; exact hz
    obtain ⟨n, hn⟩ := sortedAll_at s.heap its out.toArray
    exact ⟨.ref _, upd H _ (.lst (((xs.zip ds).mergeSort leD).map (·.1))), I.laid (t' := s.toks) (fun b o e => sortedAll_old e) (Nat.le_succ _) ⟨h3, out, n, h2, hn⟩, rfl, q _ (I.hok.fresh (Nat.le_succ _))⟩
end
theorem perm_sorted {α : Type} {le lt : α → α → Prop} (hn : ∀ a b, lt a b → ¬ le b a) : ∀ {l m : List α}, l.Perm m → l.Pairwise le → m.Pairwise lt → l = m
  | l, [], p, _, _ => p.eq_nil
  | l, x :: m, p, h1, h2 => by
    cases l with
    | nil => exact absurd p.symm.eq_nil (by simp)
    | cons y l =>
      have e : y = x := by
        by_cases h : y = x
        · exact h
        · have a1 : x ∈ y :: l := p.mem_iff.mpr List.mem_cons_self
          have a2 : y ∈ x :: m := p.mem_iff.mp List.mem_cons_self
          have b1 : x ∈ l := (List.mem_cons.mp a1).resolve_left fun z => h z.symm
          have b2 : y ∈ m := (List.mem_cons.mp a2).resolve_left h
          exact absurd ((List.pairwise_cons.mp h1).1 x b1) (hn _ _ ((List.pairwise_cons.mp h2).1 y b2))
      subst e
      rw [perm_sorted hn (List.Perm.cons_inv p) (List.pairwise_cons.mp h1).2 (List.pairwise_cons.mp h2).2]
/-- the sorted list, if one says how it stands: strictly by the data -/
theorem sort_is {bs m : List (V × PyData)} (p : m.Perm bs) (h : m.Pairwise fun a b => PySem.W.dataLt a.2 b.2 = true) : bs.mergeSort leD = m := by
  have tot := PySem.W.sortLe_total (listOrd itemOrd) false (fun b : V × PyData => PySem.W.keyToks b.2)
  have hs := PySem.W.sort_pairwise tot bs
  refine perm_sorted (le := fun a b => leD a b = true) (lt := fun a b => PySem.W.dataLt a.2 b.2 = true) (fun a b h1 h2 => ?_) ((List.mergeSort_perm bs leD).trans p.symm) hs h
  have e : leD b a = !PySem.W.dataLt a.2 b.2 := by
    unfold leD
    rw [PySem.W.dataLe_eq]
    rfl
  rw [e, h1] at h2
  cases h2
theorem lt_ints {a b : List Int} : PySem.W.dataLt (.tuple (a.map PyData.int)) (.tuple (b.map PyData.int)) = decide (a < b) := by
  rw [PySem.W.dataLt_tuple]
  exact PySem.W.dataLt_ints a b
theorem lex_lt : ∀ {a b : List Int}, HT.lexLt a b = true → a < b
  | [], [], h => by cases h
  | [], y :: b, _ => List.nil_lt_cons _ _
  | x :: a, [], h => by cases h
  | x :: a, y :: b, h => by
    have h : (if x = y then HT.lexLt a b else decide (x < y)) = true := h
    by_cases e : x = y
    · rw [if_pos e] at h
      rw [e]
      exact List.cons_lt_cons_iff.mpr (.inr ⟨rfl, lex_lt h⟩)
    · rw [if_neg e] at h
      exact List.cons_lt_cons_iff.mpr (.inl (of_decide_eq_true h))
theorem alike_ints (a b : List Int) : PySem.W.alike (.tuple (a.map PyData.int)) (.tuple (b.map PyData.int)) = true := by
  rw [PySem.W.alike]
  exact PySem.W.alike_ints a b
theorem zip_maps {α β : Type} : ∀ bs : List (α × β), (bs.map (·.1)).zip (bs.map (·.2)) = bs
  | [] => rfl
  | b :: bs => congrArg (b :: ·) (zip_maps bs)
section
variable {K : PySem.W.Frag} {σ : L2.St} {H : Hp} {te : TE}
theorem el_sortedDt {bs m : List (V × PyData)} (h : EvL te σ H (bs.map (·.1))) (hd : ∀ H1, Ex H H1 → DpAll K H1 (bs.map (·.1)) (bs.map (·.2))) (hal : PySem.W.AllAlike (bs.map (·.2))) (hk : PySem.W.Sortable (bs.map (·.2))) (hdp : ∀ d ∈ bs.map (·.2), d.depth ≤ 8) (p : m.Perm bs) (hm : m.Pairwise fun a b => PySem.W.dataLt a.2 b.2 = true) : EvL (tCB (rSortedDt K) (tCons te tNil)) σ H (m.map (·.1)) := fun H1 e Q q =>
  h H1 e _ fun a H2 ha e2 hx => ⟨a, _, _, rfl, sq_of hx, hd H2 (e.trans e2), hal, hk, hdp, fun p0 hp => by
    rw [zip_maps bs, sort_is p hm]
    exact q p0 _ (fresh_back e2 hp) (e2.trans (Ex.new hp)) upd_same⟩
end
end LSD

set_option Elab.async false
set_option linter.all false
set_option maxRecDepth 100000
set_option maxHeartbeats 4000000
/-! ### xs[::-1] -/
namespace RS
open PySem PySem.Spec PyProof.Rows L2 Evl
section
variable {X : Cx} {e st : Expr} {te : TE} {ts : TO} {pos p2 : Pos}
def tRevSl (K : PySem.W.Frag) (te : TE) (ts : TO) : TE := fun σ H Q => te σ H fun x H1 => ts σ H1 fun i H2 => ∃ (l : Addr) (xs : List V), x = .ref l ∧ i = some (-1) ∧ SqL K H2 l xs ∧ ∀ p, H2 p = none → Q (.ref p) (upd H2 p (.lst xs.reverse))
theorem vals_rv : ∀ {xs : List V} {us : List Value}, Vals xs us → Vals xs.reverse us.reverse
  | _, _, .nil => .nil
  | _, _, .cons r rs => by
    rw [List.reverse_cons, List.reverse_cons]
    exact (vals_rv rs).append (.cons r .nil)
theorem pe_revSl (he : PE X e te) (hs : PO X (some st) ts) (hsub : ∀ (l sl : Addr), ∃ ops, subscripted (.Slice none none (some st) p2) false (.ref l) (.ref sl) = operate ops (getItem (.ref l) (.ref sl)) := by intros; exact ⟨_, by with_unfolding_all rfl⟩) : PE X (.Subscript e (.Slice none none (some st) p2) pos) (tRevSl X.K te ts) := by
  refine ⟨fun pins s σ H Q I h => ?_⟩
  refine Subscript_ (thn (he.run pins s σ H _ I h) fun v s1 ⟨x, H1, I1, r1, q1⟩ => ?_)
  refine wpAny_Slice ?_
  rw [evalPart_none]
  refine wpAny_pure ?_
  refine wpAny_pure ?_
  refine thn (hs.run pins s1 σ H1 _ I1 q1) fun vk s3 ⟨i, H3, I3, pk, q3⟩ => ?_
  obtain ⟨l, xs, rfl, rfl, hq, q⟩ := q3
  cases r1
  have I4 : Inv X pins σ H3 { s3 with heap := s3.heap.push { cls := .type "slice", data := .fields #[.none, .none, vk] } } := I3.kept (t' := s3.toks) fun b ob q => Heap.get?_push_of_some _ q
  obtain ⟨its, r, ht, hz⟩ := I4.list hq
  have hlen := r.length
  obtain ⟨ops, ho⟩ := hsub l s3.heap.objs.size
  refine tail_any (ops := ops) ht.isList.typeIs slot_list_getitem.lookup ?_ ho
  refine wpAny_getItem_list_slice ht.isList (Heap.IsSliceOf.new ..) .none .none pk (by decide) ?_ (by rw [List.size_toArray] <;> omega)
  rw [PySem.W.krv_pick]
  refine ⟨.ref _, _, I4.laid (t' := s3.toks) (o := .lst xs.reverse) (fun b ob q => Heap.get?_push_of_some _ q) (Nat.le_refl _) ?_, rfl, q _ (I4.hok.fresh (Nat.le_refl _))⟩
  exact ⟨by rw [List.length_reverse]; exact hz, _, 0, vals_rv r, Heap.get?_push_size _ rfl⟩
end
section
variable {K : PySem.W.Frag} {σ : L2.St} {H : Hp} {te : TE} {ts : TO}
theorem el_rev {l : Addr} {xs : List V} (h : Ev te σ H (.ref l)) (hs : EvO ts σ H (some (-1))) (hl : H l = some (.lst xs)) : EvL (tRevSl K te ts) σ H xs.reverse := fun H1 e1 Q q =>
  h H1 e1 _ fun H2 e2 => hs H2 (e1.trans e2) _ fun H3 e3 => ⟨l, xs, rfl, rfl, sq_of (((e1.trans e2).trans e3) _ _ hl), fun p hp => q p _ (fresh_back (e2.trans e3) hp) ((e2.trans e3).trans (Ex.new hp)) upd_same⟩
end
end RS

set_option Elab.async false
set_option linter.all false
set_option maxRecDepth 100000
set_option maxHeartbeats 4000000
namespace LK
open PySem PySem.Spec PyProof.Rows L2 Evl

/-! ### data that == serves -/
def Sh (n : Nat) (d : PyData) : Prop := d.canLay0 = true ∧ d.depth ≤ n
theorem sh_int (i : Int) (n : Nat := 0) : Sh n (.int i) := ⟨by simp [PyData.canLay0], by simp [PyData.depth]⟩
theorem sh_bool (b : Bool) (n : Nat := 0) : Sh n (.bool b) := ⟨by simp [PyData.canLay0], by simp [PyData.depth]⟩
theorem sh_none (n : Nat := 0) : Sh n .none := ⟨by simp [PyData.canLay0], by simp [PyData.depth]⟩
theorem sh_all {n : Nat} : ∀ {ds : List PyData}, (∀ d ∈ ds, Sh n d) → PyData.canLayAll0 ds = true ∧ PyData.depthAll ds ≤ n
  | [], _ => ⟨by simp [PyData.canLayAll0], by simp [PyData.depthAll]⟩
  | d :: ds, h => by
    obtain ⟨h1, h2⟩ := h d List.mem_cons_self
    obtain ⟨h3, h4⟩ := sh_all fun e he => h e (List.mem_cons_of_mem _ he)
    refine ⟨?_, ?_⟩
    · rw [PyData.canLayAll0, h1, h3]
      rfl
    · rw [PyData.depthAll]
      omega
theorem sh_tup {n : Nat} {ds : List PyData} (h : ∀ d ∈ ds, Sh n d) : Sh (n + 1) (.tuple ds) := by
  obtain ⟨h1, h2⟩ := sh_all h
  refine ⟨?_, ?_⟩
  · rw [PyData.canLay0]
    exact h1
  · rw [PyData.depth]
    omega
theorem sh_lst {n : Nat} {ds : List PyData} (h : ∀ d ∈ ds, Sh n d) : Sh (n + 1) (.list ds) := by
  obtain ⟨h1, h2⟩ := sh_all h
  refine ⟨?_, ?_⟩
  · rw [PyData.canLay0]
    exact h1
  · rw [PyData.depth]
    omega
theorem Sh.up {n m : Nat} {d : PyData} (h : Sh n d) (e : n ≤ m) : Sh m d := ⟨h.1, Nat.le_trans h.2 e⟩
theorem Sh.shaped {n : Nat} {d : PyData} (h : Sh n d) (e : n ≤ 64) : SeqAt.shaped d = true := by
  unfold SeqAt.shaped
  rw [h.1, decide_eq_true (Nat.le_trans h.2 e)]
  rfl
theorem Sh.refl {n : Nat} {d : PyData} (h : Sh n d) : PyData.eqv d d = true := SeqAt.eqv_refl d h.1
theorem sh_ints (ns : List Int) : ∀ d ∈ ns.map PyData.int, Sh 0 d := fun d hd => by
  obtain ⟨i, _, rfl⟩ := List.mem_map.mp hd
  exact sh_int i
section
variable {K : PySem.W.Frag} {H H' : Hp}
theorem dp_ints : ∀ ns : List Int, DpAll K H (ns.map V.int) (ns.map PyData.int)
  | [] => .nil
  | n :: r => .cons (.int n) (dp_ints r)
mutual
theorem dp_mono (e : Ex H H') : ∀ {v : V} (d : PyData), Dp K H v d → Dp K H' v d
  | _, .none, h => by cases h; exact .non
  | _, .bool b, h => by cases h; exact .bl b
  | _, .int i, h => by cases h; exact .int i
  | _, .str x, h => by cases h; exact .str x
  | _, .list ds, h => by
    cases h with
    | lst h1 h2 => exact .lst (ex_l e h1) (dpa_mono e ds h2)
  | _, .tuple ds, h => by
    cases h with
    | tup h1 h2 => exact .tup (ex_t e h1) (dpa_mono e ds h2)
  | _, .dict _, h => by cases h
theorem dpa_mono (e : Ex H H') : ∀ {vs : List V} (ds : List PyData), DpAll K H vs ds → DpAll K H' vs ds
  | _, [], h => by cases h; exact .nil
  | _, d :: ds, h => by
    cases h with
    | cons h1 h2 => exact .cons (dp_mono e d h1) (dpa_mono e ds h2)
end
/-- two values of the same data: == True, != False -/
theorem rv_eqD {x y : V} {d : PyData} {n : Nat} (hx : Dp K H x d) (hy : Dp K H y d) (s : Sh n d) (hn : n ≤ 64) : RV (rEqD K) x y H (.bl true) := rv_val fun H1 e Q q =>
  ⟨d, d, dp_mono e d hx, dp_mono e d hy, s.shaped hn, s.shaped hn, by rw [s.refl]; exact q⟩
theorem rv_neD {x y : V} {d : PyData} {n : Nat} (hx : Dp K H x d) (hy : Dp K H y d) (s : Sh n d) (hn : n ≤ 64) : RV (rNeD K) x y H (.bl false) := rv_val fun H1 e Q q =>
  ⟨d, d, dp_mono e d hx, dp_mono e d hy, s.shaped hn, s.shaped hn, by rw [s.refl]; exact q⟩
/-- of any two data -/
theorem rv_neDD {x y : V} {d f : PyData} {n : Nat} (hx : Dp K H x d) (hy : Dp K H y f) (s : Sh n d) (s' : Sh n f) (hn : n ≤ 64) : RV (rNeD K) x y H (.bl (!PyData.eqv d f)) := rv_val fun H1 e Q q =>
  ⟨d, f, dp_mono e d hx, dp_mono e f hy, s.shaped hn, s'.shaped hn, q⟩
theorem rv_eqDD {x y : V} {d f : PyData} {n : Nat} (hx : Dp K H x d) (hy : Dp K H y f) (s : Sh n d) (s' : Sh n f) (hn : n ≤ 64) : RV (rEqD K) x y H (.bl (PyData.eqv d f)) := rv_val fun H1 e Q q =>
  ⟨d, f, dp_mono e d hx, dp_mono e f hy, s.shaped hn, s'.shaped hn, q⟩
theorem rv_ltT {a b : Addr} {ns ms : List Int} (ha : SqT K H a (ns.map V.int)) (hb : SqT K H b (ms.map V.int)) : RV (rLtT K) (.ref a) (.ref b) H (.bl (HT.lexLt ns ms)) := rv_val fun H1 e Q q =>
  ⟨a, b, ns, ms, rfl, rfl, ex_t e ha, ex_t e hb, q⟩
def leV (ns ms : List Int) : Bool := Ob.lexAt (fun j => decide (ns.getD j 0 = ms.getD j 0)) (fun j => decide (ns.getD j 0 ≤ ms.getD j 0)) (decide (ns.length ≤ ms.length)) 0 (min ns.length ms.length)
theorem rv_leT {a b : Addr} {ns ms : List Int} (ha : SqT K H a (ns.map V.int)) (hb : SqT K H b (ms.map V.int)) : RV (rLeT K) (.ref a) (.ref b) H (.bl (leV ns ms)) := rv_val fun H1 e Q q =>
  ⟨a, b, ns, ms, rfl, rfl, ex_t e ha, ex_t e hb, q⟩

/-! ### reading a cell of the script -/
def cellv (ns : List Int) (k : Nat) : Int := ns.getD k 0
theorem cellv_in {ns : List Int} {k : Nat} (hk : k < ns.length) : (ns.map V.int)[k]? = some (.int (cellv ns k)) := by
  rw [List.getElem?_map, List.getElem?_eq_getElem hk]
  unfold cellv
  rw [List.getD_eq_getElem?_getD, List.getElem?_eq_getElem hk]
  rfl
theorem cellv_out {ns : List Int} {k : Nat} (hk : ns.length ≤ k) : cellv ns k = 0 := by
  unfold cellv
  rw [List.getD_eq_getElem?_getD, List.getElem?_eq_none hk]
  rfl
def spCel (K : PySem.W.Frag) : Sp := fun vs H Q _ => ∃ (a : Addr) (ns : List Int) (k : Nat), vs = [.ref a, .int (k : Int)] ∧ SqL K H a (ns.map V.int) ∧ RetV (.int (cellv ns k)) H Q
theorem sv_cell {a : Addr} {ns : List Int} {k : Nat} {z : Int} (h : SqL K H a (ns.map V.int)) (e : z = (k : Int)) : SpV (spCel K) [.ref a, .int z] H (.int (cellv ns k)) := fun H1 e1 Q q E =>
  ⟨a, ns, k, by rw [e], ex_l e1 h, fun H2 e2 => q H2 e2⟩
end
end LK

namespace ND
open PySem PySem.Spec PyProof.Rows L2 Evl LK LT LG LS LQ LX LO LN LP
def top (i : Nat) : Stmt := PySem.Challenge.pw_laminae_k14_whole_tree_stays_balanced.main.body.getD i (.Pass ⟨0, 0, 0, 0⟩)
abbrev sIw : Stmt := top 8
theorem scIw : FnScope ["value"] ["value"] (defScope sIw) := ⟨rfl, rfl, rfl, by decide +kernel, rfl, by decide +kernel, by decide +kernel⟩
abbrev sAre : Stmt := top 9
theorem scAre : FnScope ["values", "many"] ["values", "many"] (defScope sAre) := ⟨rfl, rfl, rfl, by decide +kernel, rfl, by decide +kernel, by decide +kernel⟩
abbrev sSize : Stmt := top 16
theorem scSize : FnScope ["blocks"] ["blocks"] (defScope sSize) := ⟨rfl, rfl, rfl, by decide +kernel, rfl, by decide +kernel, by decide +kernel⟩
abbrev sInit : Stmt := inClass (top 17) 0
theorem scInit : FnScope ["self", "blocks", "_"] ["self", "blocks"] (defScope sInit) := ⟨rfl, rfl, rfl, by decide +kernel, rfl, by decide +kernel, by decide +kernel⟩
abbrev sRead : Stmt := inClass (top 17) 1
theorem scRead : FnScope ["self", "sector"] ["self", "sector"] (defScope sRead) := ⟨rfl, rfl, rfl, by decide +kernel, rfl, by decide +kernel, by decide +kernel⟩
abbrev sWrite : Stmt := inClass (top 17) 2
theorem scWrite : FnScope ["self", "sector", "words", "written"] ["self", "sector", "words"] (defScope sWrite) := ⟨rfl, rfl, rfl, by decide +kernel, rfl, by decide +kernel, by decide +kernel⟩
abbrev sFlush : Stmt := inClass (top 17) 3
theorem scFlush : FnScope ["self"] ["self"] (defScope sFlush) := ⟨rfl, rfl, rfl, by decide +kernel, rfl, by decide +kernel, by decide +kernel⟩
abbrev sWait : Stmt := inClass (top 17) 4
theorem scWait : FnScope ["self", "sector", "words"] ["self"] (defScope sWait) := ⟨rfl, rfl, rfl, by decide +kernel, rfl, by decide +kernel, by decide +kernel⟩
abbrev sImg : Stmt := inClass (top 17) 7
theorem scImg : FnScope ["self"] ["self"] (defScope sImg) := ⟨rfl, rfl, rfl, by decide +kernel, rfl, by decide +kernel, by decide +kernel⟩
abbrev sSec : Stmt := inClass (top 17) 9
theorem scSec : FnScope ["self", "sector"] ["self", "sector"] (defScope sSec) := ⟨rfl, rfl, rfl, by decide +kernel, rfl, by decide +kernel, by decide +kernel⟩
abbrev sBeg : Stmt := inClass (top 17) 10
theorem scBeg : FnScope ["self"] ["self"] (defScope sBeg) := ⟨rfl, rfl, rfl, by decide +kernel, rfl, by decide +kernel, by decide +kernel⟩
abbrev sSet : Stmt := inClass (top 17) 11
theorem scSet : FnScope ["self", "choices", "sector", "words", "many"] ["self", "choices"] (defScope sSet) := ⟨rfl, rfl, rfl, by decide +kernel, rfl, by decide +kernel, by decide +kernel⟩
structure Txt (mg : Str → Option Value) (K : PySem.W.Frag) (C : Addr) : Prop where
  len : mg "len" = none
  range : mg "range" = none
  list : mg "list" = none
  isinstance : mg "isinstance" = none
  zip : mg "zip" = none
  int : mg "int" = none
  bool : mg "bool" = none
  all : mg "all" = none
  gMIN_BLOCKS : ∃ t, mg "MIN_BLOCKS" = some (.int 96 t)
  gMAX_BLOCKS : ∃ t, mg "MAX_BLOCKS" = some (.int 256 t)
  gSECTOR_WORDS : ∃ t, mg "SECTOR_WORDS" = some (.int 8 t)
  gBLOCK_SECTORS : ∃ t, mg "BLOCK_SECTORS" = some (.int 4 t)
  cl : Cls K C
  nb : NoAttr K C "blocks"
  nk : NoAttr K C "_kept"
  ns : NoAttr K C "_shown"
  nw : NoAttr K C "_writes"
  np : NoAttr K C "_powered"
  nf : NoAttr K C "_before_failure"
  mgC : mg "Disk" = some (.ref C)
/-! ### values of a known kind -/
inductive Kd (H : Hp) : V → String → Prop
  | non : Kd H .non "NoneType"
  | bl (b : Bool) : Kd H (.bl b) "bool"
  | int (i : Int) : Kd H (.int i) "int"
  | str (z : Str) : Kd H (.str z) "str"
  | lst {a : Addr} {xs : List V} (h : H a = some (.lst xs)) : Kd H (.ref a) "list"
  | tup {a : Addr} {xs : List V} (h : H a = some (.tup xs)) : Kd H (.ref a) "tuple"
theorem Kd.mono {H H' : Hp} {v : V} {n : String} (e : Ex H H') : Kd H v n → Kd H' v n
  | .non => .non
  | .bl b => .bl b
  | .int i => .int i
  | .str z => .str z
  | .lst h => .lst (e _ _ h)
  | .tup h => .tup (e _ _ h)
theorem Kd.ty {K : PySem.W.Frag} {H : Hp} {v : V} {n : String} : Kd H v n → TyOf K H v (.type n)
  | .non => .non
  | .bl b => .bl b
  | .int i => .int i
  | .str z => .str z
  | .lst h => .lst h
  | .tup h => .tup h
theorem Kd.no {H : Hp} {v : V} {n : String} (k : Kd H v n) : ∀ a C dx fs, H a = some (.ins C dx fs) → v ≠ .ref a := fun a C dx fs h e => by
  cases k with
  | lst h2 =>
    cases e
    rw [h] at h2
    cases h2
  | tup h2 =>
    cases e
    rw [h] at h2
    cases h2
  | _ => cases e
def wd : V → Bool
  | .int i => decide (0 ≤ i)
  | _ => false
/-- isinstance(v, int), isinstance(v, bool) -/
def kInt (n : String) : Bool := n == "int" || n == "bool"
theorem kd_int {K : PySem.W.Frag} {H : Hp} {v : V} {n : String} (k : Kd H v n) : PySem.W.kitOne K (.type n) (.type "int") = some (kInt n) := by
  cases k <;> exact kit_ty rfl
theorem kd_bool {K : PySem.W.Frag} {H : Hp} {v : V} {n : String} (k : Kd H v n) : PySem.W.kitOne K (.type n) (.type "bool") = some (n == "bool") := by
  cases k <;> exact kit_ty rfl
theorem kd_list {K : PySem.W.Frag} {H : Hp} {v : V} {n : String} (k : Kd H v n) : PySem.W.kitOne K (.type n) (.type "list") = some (n == "list") := by
  cases k <;> exact kit_ty rfl
theorem kd_tuple {K : PySem.W.Frag} {H : Hp} {v : V} {n : String} (k : Kd H v n) : PySem.W.kitOne K (.type n) (.type "tuple") = some (n == "tuple") := by
  cases k <;> exact kit_ty rfl
theorem kd_str {K : PySem.W.Frag} {H : Hp} {v : V} {n : String} (k : Kd H v n) : PySem.W.kitOne K (.type n) (.type "str") = some (n == "str") := by
  cases k <;> exact kit_ty rfl
section
variable {K : PySem.W.Frag} {σ : L2.St} {H : Hp} {ta tb : TE} {v : V}
theorem ev_isk {n m : String} {b : Bool} (h : Ev ta σ H v) (hn : Ev tb σ H (.ty m)) (k : Kd H v n) (hk : PySem.W.kitOne K (.type n) (.type m) = some b) : Ev (tCB (rIsi K) (tCons ta (tCons tb tNil))) σ H (.bl b) := ev_isi h hn (fun H1 e => .base (k.mono e).ty) hk
end
def spIw : Sp := fun vs H Q _ => ∃ (v : V) (n : String), vs = [v] ∧ Kd H v n ∧ RetV (.bl (wd v)) H Q
theorem sv_iw {v : V} {n : String} {H : Hp} (k : Kd H v n) : SpV spIw [v] H (.bl (wd v)) := fun H1 e Q q E => ⟨v, n, rfl, k.mono e, q⟩

section
variable {P : Program} {w : World} {K : PySem.W.Frag} {mg : Str → Option Value} {base : Heap} {C : Addr}
theorem ok_iw {f : Addr} {fd : FuncData} (F : Fun K "is_word" "is_word" sIw f fd) (T : Txt mg K C) : FnOk P w K mg base CX0 1 f fd ["value"] spIw := by
  refine F.ok scIw (fun vs H Q E h => ?_) (fun cdv A outer s H vs Q E hr h => ?_)
  · obtain ⟨v, n, rfl, _⟩ := h
    rfl
  · obtain ⟨v, n, rfl, k, q⟩ := h
    refine ⟨_, (pss_one (ps_ret (pe_and (pe_callB call_isi (by rfl) T.isinstance (by decide +kernel) (pa_cons (pv 0) (pa_cons (pe_bltn (v := .ty "int") (u := .type "int") (by rfl) T.int (by decide +kernel) rfl) pa_nil))) (pe_and (pe_not (pe_callB call_isi (by rfl) T.isinstance (by decide +kernel) (pa_cons (pv 0) (pa_cons (pe_bltn (v := .ty "bool") (u := .type "bool") (by rfl) T.bool (by decide +kernel) rfl) pa_nil)))) (pe_one (pe_cmpR op_ge (pv 0) pe_int (nomark _))))))), ?_⟩
    have i1 := ev_isk (K := K) (σ := [some v]) (ta := tVar 0) (tb := tC (.ty "int")) (ev_var rfl) ev_c k (kd_int k)
    have i2 := ev_isk (K := K) (σ := [some v]) (ta := tVar 0) (tb := tC (.ty "bool")) (ev_var rfl) ev_c k (kd_bool k)
    cases k with
    | int i => exact s_ret (ev_is (ev_andV i1 (fun _ => ev_andV (ev_notV i2) (fun _ => ev_op (ev_var rfl) ev_c rv_I0))) rfl) fun H1 e1 => q H1 e1
    | bl b => exact s_ret (ev_is (ev_andV (b := false) i1 (fun _ => ev_andV (b := false) (ev_notV i2) (fun h => by cases h))) rfl) fun H1 e1 => q H1 e1
    | non => exact s_ret (ev_is (ev_andV (b := false) i1 (fun h => by cases h)) rfl) fun H1 e1 => q H1 e1
    | str z => exact s_ret (ev_is (ev_andV (b := false) i1 (fun h => by cases h)) rfl) fun H1 e1 => q H1 e1
    | lst h => exact s_ret (ev_is (ev_andV (b := false) i1 (fun h => by cases h)) rfl) fun H1 e1 => q H1 e1
    | tup h => exact s_ret (ev_is (ev_andV (b := false) i1 (fun h => by cases h)) rfl) fun H1 e1 => q H1 e1
/-- is_word(x) in an element of a generator expression -/
theorem qv_iw {X : Cx} {σ : L2.St} {H : Hp} {Pt : Addr} {scope : Scope} {x : Str} {u : Value} {v : V} {n : String} {a : Expr} {pos p : Pos} {f : Addr} {fd : FuncData} {j : Nat} (hr : Room j X.A) (T : Txt X.mg X.K C) (F : Fun X.K "is_word" "is_word" sIw f fd) (bI : Binds X.K fd ["value"] []) (gI : X.mg "is_word" = some (.ref f)) (hT : Tab H Pt) (k : Kd H v n)
    (hk : scope.kind = .function) (hl : scope.names.lookup ("is_word" : Str) = some .globalImplicit) (ha : QV X σ H Pt scope x u a v) (hs : ∀ env, starEach [a] env = (false, eval a env) :: starEach [] env := by intro _; rfl) : QV X σ H Pt scope x u (.Call (.Name "is_word" p) [a] [] pos) (.bl (wd v)) := by
  refine qv_call1 hr hk hl gI F rfl scIw rfl bI ha (fun A0 r hr0 => ?_) hs (by decide)
  have kk := k
  have b1 := kd_int (K := X.K) k
  have b2 := kd_bool (K := X.K) k
  have ty := k.ty (K := X.K)
  have no := k.no
  cases k with
  | int i => exact qv_is (qv_and (qv_blt2 rfl rfl T.isinstance (by decide +kernel) (qv_x rfl rfl hr0) (qv_blt (z := .ty "int") (r := .type "int") rfl rfl T.int (by decide +kernel) rfl) (qr_isi hT ty no b1)) (fun _ => qv_and (qv_not (qv_blt2 rfl rfl T.isinstance (by decide +kernel) (qv_x rfl rfl hr0) (qv_blt (z := .ty "bool") (r := .type "bool") rfl rfl T.bool (by decide +kernel) rfl) (qr_isi hT ty no b2))) (fun _ => qv_one (qv_cmp qr_ge_int (qv_x rfl rfl hr0) qv_int (nomark _))))) rfl
  | bl b => exact qv_is (qv_and (d := false) (qv_blt2 rfl rfl T.isinstance (by decide +kernel) (qv_x rfl rfl hr0) (qv_blt (z := .ty "int") (r := .type "int") rfl rfl T.int (by decide +kernel) rfl) (qr_isi hT ty no b1)) (fun _ => qv_is (qv_and (d := false) (qv_not (qv_blt2 rfl rfl T.isinstance (by decide +kernel) (qv_x rfl rfl hr0) (qv_blt (z := .ty "bool") (r := .type "bool") rfl rfl T.bool (by decide +kernel) rfl) (qr_isi hT ty no b2))) (fun h => by cases h)) (show _ = V.bl false from rfl))) rfl
  | non => exact qv_is (qv_and (d := false) (qv_blt2 rfl rfl T.isinstance (by decide +kernel) (qv_x rfl rfl hr0) (qv_blt (z := .ty "int") (r := .type "int") rfl rfl T.int (by decide +kernel) rfl) (qr_isi hT ty no b1)) (fun h => by cases h)) rfl
  | str z => exact qv_is (qv_and (d := false) (qv_blt2 rfl rfl T.isinstance (by decide +kernel) (qv_x rfl rfl hr0) (qv_blt (z := .ty "int") (r := .type "int") rfl rfl T.int (by decide +kernel) rfl) (qr_isi hT ty no b1)) (fun h => by cases h)) rfl
  | lst h => exact qv_is (qv_and (d := false) (qv_blt2 rfl rfl T.isinstance (by decide +kernel) (qv_x rfl rfl hr0) (qv_blt (z := .ty "int") (r := .type "int") rfl rfl T.int (by decide +kernel) rfl) (qr_isi hT ty no b1)) (fun h => by cases h)) rfl
  | tup h => exact qv_is (qv_and (d := false) (qv_blt2 rfl rfl T.isinstance (by decide +kernel) (qv_x rfl rfl hr0) (qv_blt (z := .ty "int") (r := .type "int") rfl rfl T.int (by decide +kernel) rfl) (qr_isi hT ty no b1)) (fun h => by cases h)) rfl
/-- are_words of a list -/
def spAre (Pt : Addr) : Sp := fun vs H Q _ => Tab H Pt ∧ ∃ (a : Addr) (xs : List V) (many : Int), vs = [.ref a, .int many] ∧ H a = some (.lst xs) ∧ (∀ x ∈ xs, ∃ n, Kd H x n) ∧ RetV (.bl (decide ((xs.length : Int) = many) && xs.all wd)) H Q
theorem ok_are {f c Pt fI : Addr} {fd fdI : FuncData} (F : FunC K "are_words" "are_words" sAre f fd c) (TB : LamX.TabB base mg c Pt) (T : Txt mg K C) (FI : Fun K "is_word" "is_word" sIw fI fdI) (bI : Binds K fdI ["value"] []) (gI : mg "is_word" = some (.ref fI)) : FnOk P w K mg base CX0 1 f fd ["values", "many"] (spAre Pt) := by
  refine F.ok scAre (fun vs H Q E h => ?_) (fun A outer s H vs Q E hr h => ?_)
  · obtain ⟨_, a, xs, m, rfl, _⟩ := h
    rfl
  · refine ⟨_, (pss_cons (ps_if (PW.pt (pw_or (pt_not (pt_val (pe_callB call_isi (by rfl) T.isinstance (by decide +kernel) (pa_cons (pv 0) (pa_cons (pe_bltn (v := .ty "list") (u := .type "list") (by rfl) T.list (by decide +kernel) rfl) pa_nil))))) (pw_or1 (pt_cmpR op_ne (pe_callB call_len_seq (by rfl) T.len (by decide +kernel) (pa_cons (pv 0) pa_nil)) (pv 1) (nomark _))))) (pss_one (ps_ret pe_bl)) pss_nil)
      (pss_one (ps_ret (pe_all hr (by rfl) T.all (by decide +kernel) TB rfl ⟨rfl, rfl, by decide +kernel, rfl, rfl, fun y hy e => absurd e ((by decide +kernel : ∀ y ∈ _, y.2 ≠ NameKind.free) y hy)⟩ (pv 0) (fun _ => rfl))))), ?_⟩
    obtain ⟨hT, a, xs, m, rfl, hS, hk, q⟩ := h
    refine q_when (b := !decide ((xs.length : Int) = m)) (et_is (et_or (et_not (et_B (ev_isk (ev_var rfl) ev_c (.lst hS) (kd_list (.lst hS))))) (fun _ => et_test (ev_op (ev_len (ev_var rfl) (sq_of hS)) (ev_var rfl) (rv_ne rfl)))) (by simp)) (fun hb H1 e1 => ?_) (fun hb H1 e1 => ?_)
    · have h0 : decide ((xs.length : Int) = m) = false := by simpa using hb
      rw [h0] at q
      exact s_ret ev_c fun H2 e2 => q H2 (e1.trans e2)
    · have h0 : decide ((xs.length : Int) = m) = true := by simpa using hb
      rw [h0] at q
      refine s_ret (ev_is (ev_gen (f := fun i => wd (xs.getD i .non)) (xs := fun i => xs.getD i .non) (n := xs.length) (ev_var rfl) (hT.mono e1) (fun H2 e2 => .inl ⟨a, xs, rfl, sq_of ((e1.trans e2) _ _ hS), rfl, fun i => rfl⟩) (fun H2 e2 i u hi hu => ?_)) ?_) fun H2 e2 => q H2 (e1.trans e2)
      · have hx : xs.getD i .non ∈ xs := by
          rw [List.getD_eq_getElem?_getD, List.getElem?_eq_getElem hi]
          exact List.getElem_mem hi
        obtain ⟨n, kn⟩ := hk _ hx
        exact qv_iw hr T FI bI gI (hT.mono (e1.trans e2)) (kn.mono (e1.trans e2)) rfl rfl (qv_x rfl rfl hu)
      · rw [allF_list xs .non wd]
        rfl
end

/-! ### a disk: what lasts, what waits, the power -/
def stepA (f : Nat → List Int) (w : Nat × List Int) (c : Nat) : Nat → List Int := fset f w.1 (w.2.take c ++ (f w.1).drop c)
def aftN (f : Nat → List Int) (ws : List (Nat × List Int)) (c : Nat → Nat) : Nat → (Nat → List Int)
  | 0 => f
  | i + 1 => stepA (aftN f ws c i) (ws.getD i (0, [])) (c i)
def due (f : Nat → List Int) (ws : List (Nat × List Int)) : Nat → List Int := ws.foldl (fun g w => fset g w.1 w.2) f
theorem due_snoc (f : Nat → List Int) (ws : List (Nat × List Int)) (w : Nat × List Int) : due f (ws ++ [w]) = fset (due f ws) w.1 w.2 := by
  unfold due
  rw [List.foldl_append]
  rfl
theorem fset_same (f : Nat → List Int) (s : Nat) : fset f s (f s) = f := funext fun x => by
  unfold fset
  split
  · rename_i h
    rw [h]
  · rfl
theorem step0 (f : Nat → List Int) (w : Nat × List Int) : stepA f w 0 = f := by
  unfold stepA
  rw [List.take_zero, List.drop_zero, List.nil_append, fset_same]
theorem aft_stop {f : Nat → List Int} {ws : List (Nat × List Int)} {c : Nat → Nat} {i : Nat} (h : ∀ j, i ≤ j → c j = 0) : ∀ k, aftN f ws c (i + k) = aftN f ws c i
  | 0 => rfl
  | k + 1 => by
    show stepA (aftN f ws c (i + k)) _ (c (i + k)) = _
    rw [h (i + k) (by omega), step0, aft_stop h k]
theorem aft_cong {f : Nat → List Int} {ws : List (Nat × List Int)} {c c' : Nat → Nat} : ∀ {i : Nat}, (∀ j, j < i → c j = c' j) → aftN f ws c i = aftN f ws c' i
  | 0, _ => rfl
  | i + 1, h => by
    show stepA (aftN f ws c i) _ (c i) = stepA (aftN f ws c' i) _ (c' i)
    rw [aft_cong fun j hj => h j (by omega), h i (by omega)]
theorem fset_len {f : Nat → List Int} {s : Nat} {v : List Int} (hf : ∀ s, (f s).length = 8) (hv : v.length = 8) : ∀ x, (fset f s v x).length = 8 := fun x => by
  unfold fset
  split
  · exact hv
  · exact hf x
theorem step_len {f : Nat → List Int} {w : Nat × List Int} {c : Nat} (hf : ∀ s, (f s).length = 8) (hw : w.2.length = 8) : ∀ x, (stepA f w c x).length = 8 := fset_len hf (by
  rw [List.length_append, List.length_take, List.length_drop, hw, hf]
  omega)
theorem getD_in {α : Type} {l : List α} {i : Nat} {d x : α} (h : l[i]? = some x) : l.getD i d = x := by
  rw [List.getD_eq_getElem?_getD, h]
  rfl
theorem aft_len {f : Nat → List Int} {ws : List (Nat × List Int)} {c : Nat → Nat} (hf : ∀ s, (f s).length = 8) (hw : ∀ w ∈ ws, w.2.length = 8) : ∀ i, i ≤ ws.length → ∀ x, (aftN f ws c i x).length = 8
  | 0, _ => hf
  | i + 1, h => step_len (aft_len hf hw i (by omega)) (by
    rw [getD_in (List.getElem?_eq_getElem (show i < ws.length by omega))]
    exact hw _ (List.getElem_mem _))
theorem due_len {f : Nat → List Int} (hf : ∀ s, (f s).length = 8) : ∀ {ws : List (Nat × List Int)}, (∀ w ∈ ws, w.2.length = 8) → ∀ x, (due f ws x).length = 8 := by
  intro ws
  induction ws generalizing f with
  | nil => exact fun _ => hf
  | cons w r ih => exact fun h => ih (f := fset f w.1 w.2) (fset_len hf (h w List.mem_cons_self)) fun v hv => h v (List.mem_cons_of_mem _ hv)
structure Dk where
  kept : Nat → List Int
  ws : List (Nat × List Int)
  pw : Bool
  bf : Option Nat
def bfV : Option Nat → V
  | none => .non
  | some k => .int (k : Int)
def dfl (n : Nat) (ka sa wa : Addr) (pw : Bool) (bf : Option Nat) : List (Str × V) := [(("blocks" : Str), .int (n : Int)), (("_kept" : Str), .ref ka), (("_shown" : Str), .ref sa), (("_writes" : Str), .ref wa), (("_powered" : Str), .bl pw), (("_before_failure" : Str), bfV bf)]
section
variable {n : Nat} {ka sa wa ka' sa' wa' : Addr} {pw pw' : Bool} {bf bf' : Option Nat}
theorem d_b : (dfl n ka sa wa pw bf).lookup ("blocks" : Str) = some (V.int (n : Int)) := rfl
theorem d_k : (dfl n ka sa wa pw bf).lookup ("_kept" : Str) = some (V.ref ka) := rfl
theorem d_s : (dfl n ka sa wa pw bf).lookup ("_shown" : Str) = some (V.ref sa) := rfl
theorem d_w : (dfl n ka sa wa pw bf).lookup ("_writes" : Str) = some (V.ref wa) := rfl
theorem d_p : (dfl n ka sa wa pw bf).lookup ("_powered" : Str) = some (V.bl pw) := rfl
theorem d_f : (dfl n ka sa wa pw bf).lookup ("_before_failure" : Str) = some (bfV bf) := rfl
theorem d_ps : putF "_shown" (V.ref sa') (dfl n ka sa wa pw bf) = dfl n ka sa' wa pw bf := rfl
theorem d_pw : putF "_writes" (V.ref wa') (dfl n ka sa wa pw bf) = dfl n ka sa wa' pw bf := rfl
theorem d_pp : putF "_powered" (V.bl pw') (dfl n ka sa wa pw bf) = dfl n ka sa wa pw' bf := rfl
theorem d_pf : putF "_before_failure" (bfV bf') (dfl n ka sa wa pw bf) = dfl n ka sa wa pw bf' := rfl
theorem d_no {m : Str} (h : m ≠ "blocks" ∧ m ≠ "_kept" ∧ m ≠ "_shown" ∧ m ≠ "_writes" ∧ m ≠ "_powered" ∧ m ≠ "_before_failure") : (dfl n ka sa wa pw bf).lookup m = Option.none := by
  unfold dfl
  rw [List.lookup_cons, beq_false_of_ne h.1, List.lookup_cons, beq_false_of_ne h.2.1, List.lookup_cons, beq_false_of_ne h.2.2.1, List.lookup_cons, beq_false_of_ne h.2.2.2.1, List.lookup_cons, beq_false_of_ne h.2.2.2.2.1, List.lookup_cons, beq_false_of_ne h.2.2.2.2.2]
  rfl
end
def Rows (G H : Hp) (la : Addr) (m : Nat) (f : Nat → List Int) : Prop := ∃ ks : List Addr, H la = some (.lst (ks.map V.ref)) ∧ ks.length = m ∧ ∀ (i : Nat) (a : Addr), ks[i]? = some a → G a = some (.lst ((f i).map V.int))
def Wr (G H : Hp) (la : Addr) (ws : List (Nat × List Int)) : Prop := ∃ ts : List Addr, H la = some (.lst (ts.map V.ref)) ∧ ts.length = ws.length ∧ ∀ (i : Nat) (t : Addr) (w : Nat × List Int), ts[i]? = some t → ws[i]? = some w → ∃ l, G t = some (.tup [.int (w.1 : Int), .ref l]) ∧ G l = some (.lst (w.2.map V.int))
structure DK (C : Addr) (G H : Hp) (p ka sa wa : Addr) (n : Nat) (d : Dk) : Prop where
  g : Ex G H
  gp : G p = none
  gk : G ka = none
  gs : G sa = none
  gw : G wa = none
  nks : ka ≠ sa
  nkw : ka ≠ wa
  nsw : sa ≠ wa
  o : ∃ dx, H p = some (.ins C dx (dfl n ka sa wa d.pw d.bf))
  k : Rows G H ka (4 * n) d.kept
  s : Rows G H sa (4 * n) (due d.kept d.ws)
  w : Wr G H wa d.ws
  n0 : 96 ≤ n
  n1 : n ≤ 256
  wl : d.ws.length ≤ 100
  ok : ∀ w ∈ d.ws, w.1 < 4 * n ∧ w.2.length = 8
  kz : ∀ s, (d.kept s).length = 8
/-- from (G, H) to (G', H1): what was frozen stays so, what was not does not become so, nothing goes away -/
structure St (G H G' H1 : Hp) : Prop where
  g : Ex G G'
  n : ∀ a, H a ≠ none → G a = none → G' a = none
  a : ∀ a, H a ≠ none → H1 a ≠ none
section
variable {C : Addr} {G G' H H1 H2 : Hp} {la p ka sa wa : Addr} {n m : Nat} {d : Dk} {f : Nat → List Int} {ws : List (Nat × List Int)}
theorem Rows.ex (r : Rows G H la m f) (g : Ex G G') (e : Ex H H1) : Rows G' H1 la m f := by
  obtain ⟨ks, h, hl, hs⟩ := r
  exact ⟨ks, e _ _ h, hl, fun i a ha => g _ _ (hs i a ha)⟩
theorem Rows.at (r : Rows G H la m f) (g : Ex G G') (e : H1 la = H la) : Rows G' H1 la m f := by
  obtain ⟨ks, h, hl, hs⟩ := r
  exact ⟨ks, by rw [e]; exact h, hl, fun i a ha => g _ _ (hs i a ha)⟩
theorem Wr.ex (r : Wr G H la ws) (g : Ex G G') (e : Ex H H1) : Wr G' H1 la ws := by
  obtain ⟨ts, h, hl, hs⟩ := r
  exact ⟨ts, e _ _ h, hl, fun i t w ht hw => let ⟨l, a, b⟩ := hs i t w ht hw; ⟨l, g _ _ a, g _ _ b⟩⟩
theorem Wr.at (r : Wr G H la ws) (g : Ex G G') (e : H1 la = H la) : Wr G' H1 la ws := by
  obtain ⟨ts, h, hl, hs⟩ := r
  exact ⟨ts, by rw [e]; exact h, hl, fun i t w ht hw => let ⟨l, a, b⟩ := hs i t w ht hw; ⟨l, g _ _ a, g _ _ b⟩⟩
theorem DK.ex (D : DK C G H p ka sa wa n d) (e : Ex H H1) : DK C G H1 p ka sa wa n d :=
  ⟨D.g.trans e, D.gp, D.gk, D.gs, D.gw, D.nks, D.nkw, D.nsw, let ⟨dx, h⟩ := D.o; ⟨dx, e _ _ h⟩, D.k.ex (Ex.refl _) e, D.s.ex (Ex.refl _) e, D.w.ex (Ex.refl _) e, D.n0, D.n1, D.wl, D.ok, D.kz⟩
theorem St.refl (G H : Hp) : St G H G H := ⟨Ex.refl _, fun _ _ h => h, fun _ h => h⟩
theorem St.ex (e : Ex H H1) : St G H G H1 := ⟨Ex.refl _, fun _ _ h => h, fun a h z => h (fresh_back e z)⟩
theorem St.trans {G2 : Hp} (s : St G H G' H1) (t : St G' H1 G2 H2) : St G H G2 H2 := ⟨s.g.trans t.g, fun a h g => t.n a (s.a a h) (s.n a h g), fun a h => t.a a (s.a a h)⟩
theorem DK.np (D : DK C G H p ka sa wa n d) : p ≠ ka ∧ p ≠ sa ∧ p ≠ wa := by
  obtain ⟨dx, h⟩ := D.o
  obtain ⟨_, h1, _⟩ := D.k
  obtain ⟨_, h2, _⟩ := D.s
  obtain ⟨_, h3, _⟩ := D.w
  exact ⟨ne_of h h1 (by intro z; cases z), ne_of h h2 (by intro z; cases z), ne_of h h3 (by intro z; cases z)⟩
theorem DK.al (D : DK C G H p ka sa wa n d) : H p ≠ none ∧ H ka ≠ none ∧ H sa ≠ none ∧ H wa ≠ none := by
  obtain ⟨dx, h⟩ := D.o
  obtain ⟨_, h1, _⟩ := D.k
  obtain ⟨_, h2, _⟩ := D.s
  obtain ⟨_, h3, _⟩ := D.w
  exact ⟨by rw [h]; exact fun z => (by cases z), by rw [h1]; exact fun z => (by cases z), by rw [h2]; exact fun z => (by cases z), by rw [h3]; exact fun z => (by cases z)⟩
theorem DK.joinG (D : DK C G H p ka sa wa n d) (e : Ex H H1) : St G H (grow G H H1 fun _ => False) H1 ∧ DK C (grow G H H1 fun _ => False) H1 p ka sa wa n d := by
  have ge := D.g.trans e
  have gg : Ex G (grow G H H1 fun _ => False) := grow_ex
  obtain ⟨ap, ak, as, aw⟩ := D.al
  exact ⟨⟨gg, fun a h g => grow_no h g, fun a h z => h (fresh_back e z)⟩, grow_sub ge, grow_no ap D.gp, grow_no ak D.gk, grow_no as D.gs, grow_no aw D.gw, D.nks, D.nkw, D.nsw, let ⟨dx, h⟩ := D.o; ⟨dx, e _ _ h⟩, D.k.ex gg e, D.s.ex gg e, D.w.ex gg e, D.n0, D.n1, D.wl, D.ok, D.kz⟩
/-- all that is new since H joins what is frozen -/
theorem DK.join (D : DK C G H p ka sa wa n d) (e : Ex H H1) : ∃ G', St G H G' H1 ∧ DK C G' H1 p ka sa wa n d ∧ ∀ a o, H a = none → H1 a = some o → G' a = some o := by
  have ge := D.g.trans e
  have gg : Ex G (grow G H H1 fun _ => False) := grow_ex
  obtain ⟨ap, ak, as, aw⟩ := D.al
  refine ⟨grow G H H1 fun _ => False, ⟨gg, fun a h g => grow_no h g, fun a h z => h (fresh_back e z)⟩, ?_, fun a o h h1 => grow_new (fresh_back D.g h) h id h1⟩
  exact ⟨grow_sub ge, grow_no ap D.gp, grow_no ak D.gk, grow_no as D.gs, grow_no aw D.gw, D.nks, D.nkw, D.nsw, let ⟨dx, h⟩ := D.o; ⟨dx, e _ _ h⟩, D.k.ex gg e, D.s.ex gg e, D.w.ex gg e, D.n0, D.n1, D.wl, D.ok, D.kz⟩
/-- what is not frozen and no part of the disk may change -/
theorem DK.upd {a : Addr} {o : HO} (D : DK C G H p ka sa wa n d) (ga : G a = none) (h1 : a ≠ p) (h2 : a ≠ ka) (h3 : a ≠ sa) (h4 : a ≠ wa) : DK C G (upd H a o) p ka sa wa n d :=
  ⟨D.g.mut ga, D.gp, D.gk, D.gs, D.gw, D.nks, D.nkw, D.nsw, let ⟨dx, h⟩ := D.o; ⟨dx, by rw [upd_ne h1.symm]; exact h⟩, D.k.at (Ex.refl _) (upd_ne h2.symm), D.s.at (Ex.refl _) (upd_ne h3.symm), D.w.at (Ex.refl _) (upd_ne h4.symm), D.n0, D.n1, D.wl, D.ok, D.kz⟩
theorem St.upd {a : Addr} {o : HO} (s : St G H G' H1) : St G H G' (upd H1 a o) := ⟨s.g, s.n, fun b h z => by
  by_cases e : b = a
  · rw [e, upd_same] at z
    cases z
  · rw [upd_ne e] at z
    exact s.a b h z⟩
end

end ND

set_option Elab.async false
set_option linter.all false
set_option maxRecDepth 100000
set_option maxHeartbeats 4000000
namespace ND
open PySem PySem.Spec PyProof.Rows L2 Evl LK LT LG LS LQ LX LO LN LP
def InS (n : Nat) (z : Int) : Prop := 0 ≤ z ∧ z < 4 * (n : Int)
def okW (xs : List V) : Prop := xs.length = 8 ∧ xs.all wd = true
theorem okW_ints : ∀ {xs : List V}, xs.all wd = true → ∃ ns : List Int, xs = ns.map V.int ∧ ∀ z ∈ ns, 0 ≤ z
  | [], _ => ⟨[], rfl, fun z hz => absurd hz List.not_mem_nil⟩
  | x :: r, h => by
    rw [List.all_cons, Bool.and_eq_true] at h
    obtain ⟨ns, e, hn⟩ := okW_ints h.2
    cases x with
    | int i =>
      have h0 : 0 ≤ i := of_decide_eq_true h.1
      exact ⟨i :: ns, by rw [e]; rfl, fun z hz => by
        rcases List.mem_cons.mp hz with rfl | h
        · exact h0
        · exact hn z h⟩
    | _ => cases h.1
theorem ints_wd {ns : List Int} (h : ∀ z ∈ ns, 0 ≤ z) : (ns.map V.int).all wd = true := by
  rw [List.all_eq_true]
  intro x hx
  obtain ⟨z, hz, rfl⟩ := List.mem_map.mp hx
  exact decide_eq_true (h z hz)
theorem kd_ints {H : Hp} (ns : List Int) : ∀ x ∈ ns.map V.int, ∃ n, Kd H x n := fun x hx => by
  obtain ⟨z, hz, rfl⟩ := List.mem_map.mp hx
  exact ⟨_, .int z⟩
def spSize : Sp := fun vs H Q _ => ∃ z : Int, vs = [.int z] ∧ RetV (.bl (decide (0 ≤ z) && (decide (96 ≤ z) && decide (z ≤ 256)))) H Q
/-- a choice of a cut -/
def wc : V → Bool
  | .int i => decide (0 ≤ i) && decide (i ≤ 8)
  | _ => false
def spChs (Pt : Addr) : Sp := fun vs H Q _ => Tab H Pt ∧ ∃ (a : Addr) (xs : List V), vs = [.ref a] ∧ H a = some (.lst xs) ∧ (∀ x ∈ xs, ∃ n, Kd H x n) ∧ RetV (.bl (xs.all wc)) H Q
def spSec (C : Addr) : Sp := fun vs H Q _ => ∃ G p ka sa wa n d z, vs = [.ref p, .int z] ∧ DK C G H p ka sa wa n d ∧ RetV (.bl (decide (0 ≤ z) && decide (z < 4 * (n : Int)))) H Q
def on (d : Dk) : Prop := d.pw = true ∧ d.bf ≠ some 0
def spBeg (C CO : Addr) : Sp := fun vs H Q E => ∃ G p ka sa wa n d, vs = [.ref p] ∧ DK C G H p ka sa wa n d ∧
  (on d → ∀ H1, (∀ a, H a ≠ none → H1 a ≠ none) → (∀ a o, H a = some o → a ≠ p → H1 a = some o) → DK C G H1 p ka sa wa n { d with bf := d.bf.map (· - 1) } → Q .non H1) ∧
  (¬ on d → ∀ H1, (∀ a, H a ≠ none → H1 a ≠ none) → (∀ a o, H a = some o → a ≠ p → H1 a = some o) → DK C G H1 p ka sa wa n { d with pw := false } → E (.ref CO) none H1)
def spRead (C CN CO : Addr) : Sp := fun vs H Q E => ∃ G p ka sa wa n d z, vs = [.ref p, .int z] ∧ DK C G H p ka sa wa n d ∧
  (d.pw = true → ∀ s : Nat, z = (s : Int) → s < 4 * n → RetL ((due d.kept d.ws s).map V.int) H Q) ∧ (d.pw = false → ∀ H', Ex H H' → E (.ref CO) none H') ∧ (d.pw = true → ¬ InS n z → ∀ H', Ex H H' → E (.ref CN) none H')
def spWrite (C CN CO Pt : Addr) : Sp := fun vs H Q E => ∃ G p ka sa wa n d z u xs, vs = [.ref p, .int z, .ref u] ∧ DK C G H p ka sa wa n d ∧ H u = some (.lst xs) ∧ (∀ x ∈ xs, ∃ k, Kd H x k) ∧ Tab G Pt ∧ d.ws.length < 100 ∧ u ≠ p ∧
  (¬ (InS n z ∧ okW xs) → ∀ H', Ex H H' → E (.ref CN) none H') ∧
  (on d → ∀ (s : Nat) (ns : List Int), z = (s : Int) → s < 4 * n → xs = ns.map V.int → ns.length = 8 → (∀ z ∈ ns, 0 ≤ z) → ∀ G' H1, St G H G' H1 → (∀ a o, H a = some o → a ≠ p → a ≠ sa → a ≠ wa → H1 a = some o) → DK C G' H1 p ka sa wa n { d with ws := d.ws ++ [(s, ns)], bf := d.bf.map (· - 1) } → Q .non H1) ∧
  (¬ on d → InS n z ∧ okW xs → ∀ H1, St G H G H1 → (∀ a o, H a = some o → a ≠ p → H1 a = some o) → DK C G H1 p ka sa wa n { d with pw := false } → E (.ref CO) none H1)
section
variable {P : Program} {w : World} {K : PySem.W.Frag} {mg : Str → Option Value} {base : Heap} {C CN CO : Addr}
theorem ok_size {f fW : Addr} {fd fdW : FuncData} (F : Fun K "is_size" "is_size" sSize f fd) (FW : Fun K "is_word" "is_word" sIw fW fdW) (bW : Binds K fdW ["value"] []) (gW : mg "is_word" = some (.ref fW)) (T : Txt mg K C) : FnOk P w K mg base CX0 2 f fd ["blocks"] spSize := by
  have GW : FnOk P w K mg base CX0 1 fW fdW ["value"] spIw := ok_iw FW T
  obtain ⟨_, gMIN_BLOCKS⟩ := T.gMIN_BLOCKS
  obtain ⟨_, gMAX_BLOCKS⟩ := T.gMAX_BLOCKS
  refine F.ok scSize (fun vs H Q E h => ?_) (fun cdv A outer s H vs Q E hr h => ?_)
  · obtain ⟨z, rfl, _⟩ := h
    rfl
  · obtain ⟨z, rfl, q⟩ := h
    refine ⟨_, (pss_one (ps_ret (pe_and (pe_call GW (hr.mono (by decide)) (by rfl) gW FW.kp bW .nil pass0 (pa_cons (pv 0) pa_nil)) (pe_one (pe_chain op_le op_le (pe_glob (v := .int 96) rfl gMIN_BLOCKS ⟨_, rfl⟩) (pv 0) (pe_glob (v := .int 256) rfl gMAX_BLOCKS ⟨_, rfl⟩)))))), ?_⟩
    exact s_ret (ev_andV (ev_call (vs := [.int z]) (ea_cons (ev_var rfl) ea_nil) (sv_iw (.int z))) (fun _ => ev_chain ev_c (ev_var rfl) ev_c)) q
theorem ok_sec {f fW : Addr} {fd fdW : FuncData} (F : Fun K "_is_sector" "Disk._is_sector" sSec f fd) (FW : Fun K "is_word" "is_word" sIw fW fdW) (bW : Binds K fdW ["value"] []) (gW : mg "is_word" = some (.ref fW)) (T : Txt mg K C) : FnOk P w K mg base CX0 2 f fd ["self", "sector"] (spSec C) := by
  have GW : FnOk P w K mg base CX0 1 fW fdW ["value"] spIw := ok_iw FW T
  obtain ⟨_, gBLOCK_SECTORS⟩ := T.gBLOCK_SECTORS
  refine F.ok scSec (fun vs H Q E h => ?_) (fun cdv A outer s H vs Q E hr h => ?_)
  · obtain ⟨G, p, ka, sa, wa, n, d, z, rfl, _⟩ := h
    rfl
  · obtain ⟨G, p, ka, sa, wa, n, d, z, rfl, D, q⟩ := h
    obtain ⟨dx, ho⟩ := D.o
    refine ⟨_, (pss_one (ps_ret (pe_and (pe_call GW (hr.mono (by decide)) (by rfl) gW FW.kp bW .nil pass0 (pa_cons (pv 1) pa_nil)) (pe_one (pe_cmpR op_lt (pv 1) (pe_op op_mul (pe_glob (v := .int 4) rfl gBLOCK_SECTORS ⟨_, rfl⟩) (pe_fld (pv 0) rfl)) (nomark _)))))), ?_⟩
    exact s_ret (ev_andV (ev_call (vs := [.int z]) (ea_cons (ev_var rfl) ea_nil) (sv_iw (.int z))) (fun _ => ev_op (ev_var rfl) (ev_op ev_c (ev_fld (ev_var rfl) ho T.cl T.nb d_b) (rv_I (.inl ⟨by decide, by decide⟩))) rv_I0)) q
theorem sv_sec {G H : Hp} {p ka sa wa : Addr} {n : Nat} {d : Dk} {z : Int} (D : DK C G H p ka sa wa n d) : SpV (spSec C) [.ref p, .int z] H (.bl (decide (0 ≤ z) && decide (z < 4 * (n : Int)))) := fun H1 e1 Q q E => ⟨G, p, ka, sa, wa, n, d, z, rfl, D.ex e1, q⟩
theorem bf_min (k : Nat) : bfV ((some (k + 1)).map (· - 1)) = .int (((k + 1 : Nat) : Int) - 1) := by
  exact congrArg V.int (show ((k + 1 - 1 : Nat) : Int) = ((k + 1 : Nat) : Int) - 1 by omega)
theorem ok_beg {f : Addr} {fd : FuncData} (F : Fun K "_begin_operation" "Disk._begin_operation" sBeg f fd) (T : Txt mg K C) (XO : Xc K mg "PowerOff" CO) : FnOk P w K mg base (L2.CX P w) 1 f fd ["self"] (spBeg C CO) := by
  refine F.okX scBeg (fun vs H Q E h => ?_) (fun cdv A outer s H vs Q E hr h => ?_)
  · obtain ⟨G, p, ka, sa, wa, n, d, rfl, _⟩ := h
    rfl
  · obtain ⟨G, p, ka, sa, wa, n, d, rfl, D, q, qE⟩ := h
    obtain ⟨dx, ho⟩ := D.o
    refine ⟨_, (pss_cut (ps_if (pt_cmpR op_eq (pe_fld (pv 0) rfl) pe_int (nomark _)) (pss_one (ps_fld (pv 0) pe_bl rfl)) pss_nil)
      (pss_cons (ps_if (pt_not (pt_val (pe_fld (pv 0) rfl))) (pss_one (ps_raise0 rfl XO (takes_of rfl rfl rfl rfl) (by rfl))) pss_nil)
      (pss_one (ps_if (pt_cmpR op_notN (pe_fld (pv 0) rfl) pe_non (nomark _)) (pss_one (ps_fldaug (pv 0) pe_int in_sub)) pss_nil)))), ?_⟩
    have kp : ∀ {H1 : Hp} {o : HO}, Ex H H1 → (∀ a, H a ≠ none → (upd H1 p o) a ≠ none) ∧ ∀ a u, H a = some u → a ≠ p → (upd H1 p o) a = some u := fun e => ⟨fun a h z => by
      by_cases ha : a = p
      · rw [ha, upd_same] at z
        cases z
      · rw [upd_ne ha] at z
        exact h (fresh_back e z), fun a u h ha => by
        rw [upd_ne ha]
        exact e _ _ h⟩
    have mk : ∀ {H1 : Hp} {pw : Bool} {bf : Option Nat}, Ex H H1 → DK C G (upd H1 p (.ins C dx (dfl n ka sa wa pw bf))) p ka sa wa n { d with pw := pw, bf := bf } := fun e => by
      have D1 := D.ex e
      obtain ⟨n1, n2, n3⟩ := D.np
      exact ⟨D1.g.mut D.gp, D.gp, D.gk, D.gs, D.gw, D.nks, D.nkw, D.nsw, ⟨dx, upd_same⟩, D1.k.at (Ex.refl _) (upd_ne n1.symm), D1.s.at (Ex.refl _) (upd_ne n2.symm), D1.w.at (Ex.refl _) (upd_ne n3.symm), D.n0, D.n1, D.wl, D.ok, D.kz⟩
    have sc0 : scal (bfV d.bf) (.int 0) = true := by cases d.bf <;> rfl
    by_cases h0 : d.bf = some 0
    · have hno : ¬ on d := fun h => h.2 h0
      refine q_cut (M := fun σ2 H2 => σ2 = [some (.ref p)] ∧ DK C G H2 p ka sa wa n { d with pw := false } ∧ (∀ a, H a ≠ none → H2 a ≠ none) ∧ ∀ a u, H a = some u → a ≠ p → H2 a = some u) ?_ ?_
      · refine s_when (b := true) (et_is (et_test (ev_op (ev_fld (ev_var rfl) ho T.cl T.nf d_f) ev_c (rv_eq sc0))) (by rw [h0]; decide)) (fun _ H1 e1 => ?_) (fun h => by cases h)
        refine s_fld ev_c (ev_var rfl) (e1 _ _ ho) T.cl T.np (by show 6 < 1000; decide) fun H2 e2 => ?_
        rw [d_pp]
        have k := kp (o := .ins C dx (dfl n ka sa wa false d.bf)) (e1.trans e2)
        exact ⟨rfl, mk (pw := false) (bf := d.bf) (e1.trans e2), k.1, k.2⟩
      · rintro σ2 H2 ⟨rfl, D2, k1, k2⟩
        obtain ⟨dx2, ho2⟩ := D2.o
        exact q_when (b := true) (et_is (et_not (et_B (ev_fld (ev_var rfl) ho2 T.cl T.np d_p))) rfl) (fun _ H3 e3 => qE hno H3 (fun a h z => k1 a h (fresh_back e3 z)) (fun a u h ha => e3 _ _ (k2 a u h ha)) (D2.ex e3)) (fun h => by cases h)
    · refine q_cut (M := fun σ2 H2 => σ2 = [some (.ref p)] ∧ Ex H H2) ?_ ?_
      · refine s_when (b := false) (et_is (et_test (ev_op (ev_fld (ev_var rfl) ho T.cl T.nf d_f) ev_c (rv_eq sc0))) (decide_eq_false fun e => h0 (by
          cases hb : d.bf with
          | none => rw [hb] at e; cases e
          | some k =>
            rw [hb] at e
            have := V.int.inj e
            have : k = 0 := by omega
            rw [this]))) (fun h => by cases h) (fun _ H1 e1 => ⟨rfl, e1⟩)
      · rintro σ2 H2 ⟨rfl, e2⟩
        cases hp : d.pw with
        | false =>
          have hno : ¬ on d := fun h => by have h1 := h.1; rw [hp] at h1; cases h1
          have ed : ({ d with pw := false } : Dk) = d := by rw [← hp]
          exact q_when (b := true) (et_is (et_not (et_B (ev_fld (ev_var rfl) (e2 _ _ ho) T.cl T.np d_p))) (by rw [hp]; rfl)) (fun _ H3 e3 => qE hno H3 (fun a h z => h (fresh_back (e2.trans e3) z)) (fun a u h ha => e3 _ _ (e2 _ _ h)) (by rw [ed]; exact D.ex (e2.trans e3))) (fun h => by cases h)
        | true =>
          have hon : on d := ⟨hp, h0⟩
          refine q_when (b := false) (et_is (et_not (et_B (ev_fld (ev_var rfl) (e2 _ _ ho) T.cl T.np d_p))) (by rw [hp]; rfl)) (fun h => by cases h) (fun _ H3 e3 => ?_)
          cases hb : d.bf with
          | none =>
            refine s_when (b := false) (et_is (et_test (ev_op (ev_fld (ev_var rfl) (e3 _ _ (e2 _ _ ho)) T.cl T.nf d_f) ev_c rv_notN)) (by rw [hb]; decide)) (fun h => by cases h) (fun _ H4 e4 => ?_)
            have ed : ({ d with bf := d.bf.map (· - 1) } : Dk) = d := by
              cases d
              simp only at hb
              rw [hb]
              rfl
            exact q hon H4 (fun a h z => h (fresh_back ((e2.trans e3).trans e4) z)) (fun a u h ha => e4 _ _ (e3 _ _ (e2 _ _ h))) (by rw [ed]; exact D.ex ((e2.trans e3).trans e4))
          | some k =>
            have hk : k ≠ 0 := fun e => h0 (by rw [hb, e])
            obtain ⟨j, rfl⟩ : ∃ j, k = j + 1 := ⟨k - 1, by omega⟩
            refine s_when (b := true) (et_is (et_test (ev_op (ev_fld (ev_var rfl) (e3 _ _ (e2 _ _ ho)) T.cl T.nf d_f) ev_c rv_notN)) (by rw [hb]; show (!decide (V.int ((j + 1 : Nat) : Int) = V.non)) = true; rw [decide_eq_false (fun e => by cases e)]; rfl)) (fun _ H4 e4 => ?_) (fun h => by cases h)
            have ho4 := e4 _ _ (e3 _ _ (e2 _ _ ho))
            have e24 := (e2.trans e3).trans e4
            refine ⟨_, rfl, p, C, dx, _, _, rfl, ho4, T.cl, T.nf, d_f, ⟨((j + 1 : Nat) : Int), 1, by rw [hb]; rfl, rfl, dx, _, ho4, by show 6 < 1000; decide, ?_⟩⟩
            rw [← bf_min j, d_pf]
            have k := kp (o := .ins C dx (dfl n ka sa wa d.pw ((some (j + 1)).map (· - 1)))) e24
            have m := mk (pw := d.pw) (bf := (some (j + 1)).map (· - 1)) e24
            exact q hon _ k.1 k.2 (by rw [hb]; exact m)
theorem ok_read {f fS : Addr} {fd fdS : FuncData} (F : Fun K "read" "Disk.read" sRead f fd) (Gis_sector : FnOk P w K mg base CX0 2 fS fdS ["self", "sector"] (spSec C)) (bis_sector : Binds K fdS ["self", "sector"] []) (mis_sector : Meth K C "_is_sector" fS) (T : Txt mg K C) (XO : Xc K mg "PowerOff" CO) (XN : Xc K mg "NotValid" CN) : FnOk P w K mg base (L2.CX P w) 3 f fd ["self", "sector"] (spRead C CN CO) := by
  refine F.okX scRead (fun vs H Q E h => ?_) (fun cdv A outer s H vs Q E hr h => ?_)
  · obtain ⟨G, p, ka, sa, wa, n, d, z, rfl, _⟩ := h
    rfl
  · obtain ⟨G, p, ka, sa, wa, n, d, z, rfl, D, q, qO, qN⟩ := h
    obtain ⟨dx, ho⟩ := D.o
    refine ⟨_, (pss_cons (ps_if (pt_not (pt_val (pe_fld (pv 0) rfl))) (pss_one (ps_raise0 rfl XO (takes_of rfl rfl rfl rfl) (by rfl))) pss_nil)
      (pss_cons (ps_if (pt_not (pt_val (pe_meth (pv 0) T.cl mis_sector Gis_sector (hr.mono (by decide)) bis_sector .nil pass0 (pa_cons (pv 1) pa_nil)))) (pss_one (ps_raise0 rfl XN (takes_of rfl rfl rfl rfl) (by rfl))) pss_nil)
      (pss_one (ps_ret (pe_callTy call_list_of (by rfl) T.list (by decide +kernel) (pa_cons (pe_ix ix_list (pe_fld (pv 0) rfl) (pv 1) (fun _ _ => rfl)) pa_nil)))))), ?_⟩
    refine q_when (et_not (et_B (ev_fld (ev_var rfl) ho T.cl T.np d_p))) (fun hb H1 e1 => qO (by simpa using hb) H1 e1) (fun hb H1 e1 => ?_)
    have hp : d.pw = true := by simpa using hb
    refine q_when (et_not (et_B (ev_meth (ev_var rfl) (e1 _ _ ho) (d_no ⟨by decide +kernel, by decide +kernel, by decide +kernel, by decide +kernel, by decide +kernel, by decide +kernel⟩) (ea_cons (ev_var rfl) ea_nil) (sv_sec (z := z) (D.ex e1))))) (fun hb H2 e2 => qN hp (fun h => by
      rw [decide_eq_true h.1, decide_eq_true h.2] at hb
      cases hb) H2 (e1.trans e2)) (fun hb H2 e2 => ?_)
    have hz : 0 ≤ z ∧ z < 4 * (n : Int) := by simpa using hb
    obtain ⟨s, hs⟩ := Int.eq_ofNat_of_zero_le hz.1
    have hlt : s < 4 * n := by omega
    have D2 := D.ex (e1.trans e2)
    obtain ⟨ks, h1, h2, h3⟩ := D2.s
    have hks : s < ks.length := by omega
    have ek := List.getElem?_eq_getElem hks
    refine s_retL (el_list (ev_op (ev_fld (ev_var rfl) (e2 _ _ (e1 _ _ ho)) T.cl T.ns d_s) (ev_var rfl) (rv_ixL (v := .ref ks[s]) (sq_of h1) (at_of hs (by rw [List.getElem?_map, ek]; rfl)))) (sq_of (D2.g _ _ (h3 s _ ek)))) fun l H3 hl e3 h3 => q hp s hs hlt l H3 (fresh_back (e1.trans e2) hl) ((e1.trans e2).trans e3) h3
end

end ND

set_option Elab.async false
set_option linter.all false
set_option maxRecDepth 100000
set_option maxHeartbeats 4000000
namespace ND
open PySem PySem.Spec PyProof.Rows L2 Evl LK LT LG LS LQ LX LO LN LP
def nV (k : Nat) : V := .int (k : Int)
/-! ### writes and what becomes of them -/
def Rw (H0 : Hp) (ws : List (Nat × List Int)) : Rel := fun i prev y H => ∃ t l w, y = .ref t ∧ ws[i]? = some w ∧ H0 t = none ∧ H0 l = none ∧ H t = some (.tup [.int (w.1 : Int), .ref l]) ∧ H l = some (.lst (w.2.map V.int)) ∧ ∀ t', V.ref t' ∈ prev → ∃ u' l', H t' = some (.tup [u', .ref l']) ∧ l' ≠ l
theorem rw_mon (H0 : Hp) (ws : List (Nat × List Int)) : Mon (Rw H0 ws) := fun i prev y H H' e ⟨t, l, w, h1, h2, h3, h4, h5, h6, h7⟩ => ⟨t, l, w, h1, h2, h3, h4, e _ _ h5, e _ _ h6, fun t' ht => let ⟨u', l', a, b⟩ := h7 t' ht; ⟨u', l', e _ _ a, b⟩⟩
def Rl (H0 : Hp) (f : Nat → List Int) : Rel := fun i prev y H => ∃ l, y = .ref l ∧ H0 l = none ∧ H l = some (.lst ((f i).map V.int)) ∧ ∀ l', V.ref l' ∈ prev → l' ≠ l
theorem rl_mon (H0 : Hp) (f : Nat → List Int) : Mon (Rl H0 f) := fun i prev y H H' e ⟨l, h1, h2, h3, h4⟩ => ⟨l, h1, h2, e _ _ h3, h4⟩
theorem alloc {H H1 : Hp} {a : Addr} {o : HO} (h : H a = some o) (hn : H1 a = none) (e : Ex H H1) : False := by
  rw [e _ _ h] at hn
  cases hn
def spSet (C : Addr) : Sp := fun vs H Q _ => ∃ G p ka sa wa n d c, ∃ cs : List Nat, vs = [.ref p, .ref c] ∧ DK C G H p ka sa wa n d ∧ H c = some (.lst (cs.map nV)) ∧ c ≠ ka ∧
  ∀ G' H1 sa' wa', St G H G' H1 → (∀ a o, H a = some o → a ≠ p → a ≠ ka → H1 a = some o) → DK C G' H1 p ka sa' wa' n { d with kept := aftN d.kept d.ws (fun j => cs.getD j 0) d.ws.length, ws := [] } → Q .non H1
def spFlush (C CO : Addr) : Sp := fun vs H Q E => ∃ G p ka sa wa n d, vs = [.ref p] ∧ DK C G H p ka sa wa n d ∧
  (on d → ∀ G' H1 sa' wa', St G H G' H1 → (∀ a o, H a = some o → a ≠ p → a ≠ ka → H1 a = some o) → DK C G' H1 p ka sa' wa' n { kept := aftN d.kept d.ws (fun _ => 8) d.ws.length, ws := [], pw := d.pw, bf := d.bf.map (· - 1) } → Q .non H1) ∧
  (¬ on d → ∀ H1, St G H G H1 → (∀ a o, H a = some o → a ≠ p → H1 a = some o) → DK C G H1 p ka sa wa n { d with pw := false } → E (.ref CO) none H1)
def spCut (C CN Pt : Addr) : Sp := fun vs H Q E => ∃ G p ka sa wa n d c xs, vs = [.ref p, .ref c] ∧ DK C G H p ka sa wa n d ∧ H c = some (.lst xs) ∧ (∀ x ∈ xs, ∃ k, Kd H x k) ∧ Tab G Pt ∧ c ≠ ka ∧
  (xs.all wc = false → ∀ H', Ex H H' → E (.ref CN) none H') ∧
  (∀ cs : List Nat, xs = (cs.map nV) → (∀ k ∈ cs, k ≤ 8) → ∀ G' H1 sa' wa', St G H G' H1 → (∀ a o, H a = some o → a ≠ p → a ≠ ka → H1 a = some o) → DK C G' H1 p ka sa' wa' n { kept := aftN d.kept d.ws (fun j => cs.getD j 0) d.ws.length, ws := [], pw := true, bf := none } → Q .non H1)
def spWait (C : Addr) : Sp := fun vs H Q _ => ∃ G p ka sa wa n d, vs = [.ref p] ∧ DK C G H p ka sa wa n d ∧ ∀ L ys H1, H L = none → Ex H H1 → H1 L = some (.lst ys) → ys.length = d.ws.length → (∀ i y, ys[i]? = some y → Rw H d.ws i (ys.take i) y H1) → Q (.ref L) H1
def spImgs (C : Addr) (g : Dk → Nat → List Int) : Sp := fun vs H Q _ => ∃ G p ka sa wa n d, vs = [.ref p] ∧ DK C G H p ka sa wa n d ∧ ∀ L ys H1, H L = none → Ex H H1 → H1 L = some (.lst ys) → ys.length = 4 * n → (∀ i y, ys[i]? = some y → Rl H (g d) i (ys.take i) y H1) → Q (.ref L) H1
def spInit (C : Addr) : Sp := fun vs H Q _ => ∃ G p dx n, vs = [.ref p, .int ((n : Nat) : Int)] ∧ Ex G H ∧ G p = none ∧ H p = some (.ins C dx []) ∧ 96 ≤ n ∧ n ≤ 256 ∧ ∀ G' ka sa wa H1, St G H G' H1 → (∀ a o, H a = some o → a ≠ p → H1 a = some o) → DK C G' H1 p ka sa wa n ⟨fun _ => Z8, [], true, none⟩ → Q .non H1
section
variable {P : Program} {w : World} {K : PySem.W.Frag} {mg : Str → Option Value} {base : Heap} {C CN CO : Addr}
theorem ok_write {f fS fA fB Pt : Addr} {fd fdS fdA fdB : FuncData} (F : Fun K "write" "Disk.write" sWrite f fd) (Gis_sector : FnOk P w K mg base CX0 2 fS fdS ["self", "sector"] (spSec C)) (bis_sector : Binds K fdS ["self", "sector"] []) (mis_sector : Meth K C "_is_sector" fS) (FAw : Fun K "are_words" "are_words" sAre fA fdA) (GAw : FnOk P w K mg base CX0 1 fA fdA ["values", "many"] (spAre Pt)) (bAw : Binds K fdA ["values", "many"] []) (gAw : mg "are_words" = some (.ref fA))
    (Gbegin_operation : FnOk P w K mg base (L2.CX P w) 1 fB fdB ["self"] (spBeg C CO)) (bbegin_operation : Binds K fdB ["self"] []) (mbegin_operation : Meth K C "_begin_operation" fB) (T : Txt mg K C) (XN : Xc K mg "NotValid" CN) : FnOk P w K mg base (L2.CX P w) 3 f fd ["self", "sector", "words"] (spWrite C CN CO Pt) := by
  obtain ⟨_, gSECTOR_WORDS⟩ := T.gSECTOR_WORDS
  refine F.okX scWrite (fun vs H Q E h => ?_) (fun cdv A outer s H vs Q E hr h => ?_)
  · obtain ⟨G, p, ka, sa, wa, n, d, z, u, xs, rfl, _⟩ := h
    rfl
  · obtain ⟨G, p, ka, sa, wa, n, d, z, u, xs, rfl, D, hu, hk, hT, hl, hup, qN, q, qO⟩ := h
    obtain ⟨dx, ho⟩ := D.o
    refine ⟨_, (pss_cons (ps_if (PW.pt (pw_or (pt_not (pt_val (pe_meth (pv 0) T.cl mis_sector Gis_sector (hr.mono (by decide)) bis_sector .nil pass0 (pa_cons (pv 1) pa_nil)))) (pw_or1 (pt_not (pt_val (pe_call GAw (hr.mono (by decide)) (by rfl) gAw FAw.kp bAw .nil pass0 (pa_cons (pv 2) (pa_cons (pe_glob (v := .int 8) rfl gSECTOR_WORDS ⟨_, rfl⟩) pa_nil)))))))) (pss_one (ps_raise0 rfl XN (takes_of rfl rfl rfl rfl) (by rfl))) pss_nil)
      (pss_cons (ps_expr (pe_meth0 (pv 0) T.cl mbegin_operation Gbegin_operation (hr.mono (by decide)) bbegin_operation .nil (pass_own (takes_of rfl rfl rfl rfl))))
      (pss_cons (ps_set (i := 3) scWrite.nd rfl (Or.inl rfl) (pe_callTy call_list_of (by rfl) T.list (by decide +kernel) (pa_cons (pv 2) pa_nil)))
      (pss_cons (ps_expr (pe_bm PySem.F.plainAttrs_list PySem.F.slot_list_append PySem.F.type_list_append mt_append (pe_fld (pv 0) rfl) (pa_cons (pe_tup (pa_cons (pv 1) (pa_cons (pv 3) pa_nil))) pa_nil)))
      (pss_one (ps_asg (pv 3) (pg_sub (pe_fld (pv 0) rfl) (pv 1) set_list))))))), ?_⟩
    refine q_when (et_or (et_not (et_B (ev_meth (ev_var rfl) ho (d_no ⟨by decide +kernel, by decide +kernel, by decide +kernel, by decide +kernel, by decide +kernel, by decide +kernel⟩) (ea_cons (ev_var rfl) ea_nil) (sv_sec (z := z) D)))) (fun _ => et_not (et_B (ev_call (vs := [.ref u, .int 8]) (ea_cons (ev_var rfl) (ea_cons ev_c ea_nil)) (fun H1 e1 Q' q' E' => ⟨(hT.mono D.g).mono e1, u, xs, 8, rfl, e1 _ _ hu, fun x hx => let ⟨k, h⟩ := hk x hx; ⟨k, h.mono e1⟩, q'⟩))))) (fun hb H1 e1 => ?_) (fun hb H1 e1 => ?_)
    · refine qN (fun ⟨h1, h2, h3⟩ => ?_) H1 e1
      rw [decide_eq_true h1.1, decide_eq_true h1.2, h3, h2] at hb
      cases hb
    · have hz : InS n z ∧ okW xs := by
        simp at hb
        refine ⟨⟨by omega, by omega⟩, by omega, ?_⟩
        rw [List.all_eq_true]
        exact hb.2.2
      obtain ⟨s, hs⟩ := Int.eq_ofNat_of_zero_le hz.1.1
      have hlt : s < 4 * n := by have := hz.1.2; omega
      obtain ⟨ns, hns, hnn⟩ := okW_ints hz.2.2
      have hnl : ns.length = 8 := by have := hz.2.1; rw [hns, List.length_map] at this; exact this
      refine q_m (ev_var rfl) (e1 _ _ ho) (d_no ⟨by decide +kernel, by decide +kernel, by decide +kernel, by decide +kernel, by decide +kernel, by decide +kernel⟩) ea_nil fun H2 e2 => ⟨G, p, ka, sa, wa, n, d, rfl, D.ex (e1.trans e2), fun hon H3 al fr D3 => ?_, fun hno H3 al fr D3 => qO hno hz H3 ⟨Ex.refl _, fun _ _ g => g, fun a h z => al a (fun z => h (fresh_back (e1.trans e2) z)) z⟩ (fun a o h hp => fr a o ((e1.trans e2) _ _ h) hp) D3⟩
      have e12 := e1.trans e2
      have al3 : ∀ a, H a ≠ none → H3 a ≠ none := fun a h => al a (fun z => h (fresh_back e12 z))
      have hu3 := fr _ _ (e12 _ _ hu) hup
      refine q_asgL (el_list (ev_var rfl) (sq_of hu3)) fun l H4 hl4 e4 h4 => ?_
      have D4 := D3.ex e4
      obtain ⟨dx4, ho4⟩ := D4.o
      obtain ⟨n1, n2, n3⟩ := D4.np
      obtain ⟨ts, w1, w2, w3⟩ := D4.w
      obtain ⟨ks, s1, s2, s3⟩ := D4.s
      have htl : (ts.map V.ref).length < 100000 := by rw [List.length_map, w2]; show d.ws.length < 100000; omega
      refine q_appU w1 (ev_fld (ev_var rfl) ho4 T.cl T.nw d_w) (eu_tup (ea_cons (ev_var rfl) (ea_cons (ev_var rfl) ea_nil)) (by simp)) htl fun t H5 ht5 e5 h5 => ?_
      have sa6 : (upd H5 wa (.lst (ts.map V.ref ++ [.ref t]))) sa = some (.lst (ks.map V.ref)) := by rw [upd_ne D.nsw]; exact e5 _ _ s1
      have ho6 : (upd H5 wa (.lst (ts.map V.ref ++ [.ref t]))) p = some (.ins C dx4 (dfl n ka sa wa d.pw (d.bf.map (· - 1)))) := by rw [upd_ne n3]; exact e5 _ _ ho4
      refine s_setL (j := s) sa6 (ev_var rfl) (ev_fld (ev_var rfl) ho6 T.cl T.ns d_s) (by rw [← hs]; exact ev_var rfl) (by rw [List.length_map, s2]; exact hlt) fun H7 e7 => ?_
      have sT : ∀ a o, H5 a = some o → a ≠ wa → a ≠ sa → (upd H7 sa (.lst ((ks.map V.ref).set s (.ref l)))) a = some o := fun a o h h1 h2 => by
        rw [upd_ne h2]
        exact e7 _ _ (by rw [upd_ne h1]; exact h)
      have wT : (upd H7 sa (.lst ((ks.map V.ref).set s (.ref l)))) wa = some (.lst (ts.map V.ref ++ [.ref t])) := by
        rw [upd_ne D.nsw.symm]
        exact e7 _ _ upd_same
      have sS : (upd H7 sa (.lst ((ks.map V.ref).set s (.ref l)))) sa = some (.lst ((ks.map V.ref).set s (.ref l))) := upd_same
      have gT : Ex G (upd H7 sa (.lst ((ks.map V.ref).set s (.ref l)))) := (((D4.g.trans e5).mut D.gw).trans e7).mut D.gs
      have aT : ∀ a, H5 a ≠ none → (upd H7 sa (.lst ((ks.map V.ref).set s (.ref l)))) a ≠ none := fun a h z => by
        by_cases h2 : a = sa
        · rw [h2, upd_same] at z
          cases z
        · rw [upd_ne h2] at z
          have z5 := fresh_back e7 z
          by_cases h1 : a = wa
          · rw [h1, upd_same] at z5
            cases z5
          · rw [upd_ne h1] at z5
            exact h z5
      generalize upd H7 sa (.lst ((ks.map V.ref).set s (.ref l))) = HX at *
      have e45 := e4.trans e5
      obtain ⟨ap3, ak3, as3, aw3⟩ := D3.al
      obtain ⟨ap, ak, as, aw⟩ := D.al
      obtain ⟨ap4, ak4, as4, aw4⟩ := D4.al
      have l_wa : l ≠ wa := fun e => aw3 (by rw [← e]; exact hl4)
      have l_sa : l ≠ sa := fun e => as3 (by rw [← e]; exact hl4)
      have t_wa : t ≠ wa := fun e => aw4 (by rw [← e]; exact ht5)
      have t_sa : t ≠ sa := fun e => as4 (by rw [← e]; exact ht5)
      have hl0 : H l = none := Classical.byContradiction fun h => al3 l h hl4
      have ht0 : H t = none := Classical.byContradiction fun h => al3 t h (fresh_back e4 ht5)
      have gl : grow G H HX (fun _ => False) l = some (.lst xs) := grow_new (fresh_back D.g hl0) hl0 id (sT l _ (e5 _ _ h4) l_wa l_sa)
      have gt : grow G H HX (fun _ => False) t = some (.tup [.int z, .ref l]) := grow_new (fresh_back D.g ht0) ht0 id (sT t _ h5 t_wa t_sa)
      obtain ⟨ks0, k1, k2, k3⟩ := D4.k
      refine q hon s ns hs hlt hns hnl hnn (grow G H HX fun _ => False) HX ⟨grow_ex, fun a h g => grow_no h g, fun a h => aT a (fun z => al3 a h (fresh_back e45 z))⟩ (fun a o h hp hsa hwa => sT a o (e45 _ _ (fr a o (e12 _ _ h) hp)) hwa hsa)
        ⟨grow_sub gT, grow_no ap D.gp, grow_no ak D.gk, grow_no as D.gs, grow_no aw D.gw, D.nks, D.nkw, D.nsw, ⟨dx4, sT p _ (e5 _ _ ho4) n3 n2⟩, ⟨ks0, sT ka _ (e5 _ _ k1) D.nkw D.nks, k2, fun i a ha => grow_ex _ _ (k3 i a ha)⟩, ⟨ks.set s l, by rw [List.map_set]; exact sS, by rw [List.length_set, s2], fun i a ha => ?_⟩, ⟨ts ++ [t], by rw [List.map_append]; exact wT, by rw [List.length_append, List.length_append, w2]; rfl, fun i t' w' ht' hw' => ?_⟩, D.n0, D.n1, ?_, ?_, D.kz⟩
      · show grow G H HX (fun _ => False) a = some (.lst ((due d.kept (d.ws ++ [(s, ns)]) i).map V.int))
        rw [due_snoc]
        unfold fset
        by_cases hi : i = s
        · subst hi
          rw [List.getElem?_set_self (by rw [s2]; exact hlt)] at ha
          cases ha
          rw [if_pos rfl, gl, hns]
        · rw [List.getElem?_set_ne (fun e => hi e.symm)] at ha
          rw [if_neg hi]
          exact grow_ex _ _ (s3 i a ha)
      · by_cases hi : i < ts.length
        · rw [List.getElem?_append_left hi] at ht'
          rw [List.getElem?_append_left (by rw [← w2]; exact hi)] at hw'
          obtain ⟨l', a, b⟩ := w3 i t' w' ht' hw'
          exact ⟨l', grow_ex _ _ a, grow_ex _ _ b⟩
        · have hi2 : i = ts.length := by
            have := (List.getElem?_eq_some_iff.mp ht').1
            rw [List.length_append] at this
            simp only [List.length_cons, List.length_nil] at this
            omega
          subst hi2
          rw [List.getElem?_append_right (Nat.le_refl _), Nat.sub_self] at ht'
          rw [w2, List.getElem?_append_right (Nat.le_refl _), Nat.sub_self] at hw'
          cases ht'
          cases hw'
          exact ⟨l, by rw [gt, hs], by rw [gl, hns]⟩
      · show (d.ws ++ [(s, ns)]).length ≤ 100
        rw [List.length_append]
        simp only [List.length_cons, List.length_nil]
        omega
      · intro w' hw'
        rcases List.mem_append.mp hw' with h | h
        · exact D.ok w' h
        · rw [List.mem_singleton.mp h]
          exact ⟨hlt, hnl⟩
theorem ok_set {f : Addr} {fd : FuncData} (F : Fun K "_settle_writes" "Disk._settle_writes" sSet f fd) (T : Txt mg K C) : FnOk P w K mg base CX0 1 f fd ["self", "choices"] (spSet C) := by
  refine F.ok scSet (fun vs H Q E h => ?_) (fun cdv A outer s H vs Q E hr h => ?_)
  · obtain ⟨G, p, ka, sa, wa, n, d, c, cs, rfl, _⟩ := h
    rfl
  · obtain ⟨G, p, ka, sa, wa, n, d, c, cs, rfl, D, hc, hck, q⟩ := h
    obtain ⟨dx, ho⟩ := D.o
    obtain ⟨n1, n2, n3⟩ := D.np
    obtain ⟨ap, ak, as, aw⟩ := D.al
    obtain ⟨ts, w1, w2, w3⟩ := D.w
    refine ⟨_, (pss_cons (ps_for PassesOwn.never rfl (pi_zip (by rfl) T.zip (pa_cons (pe_fld (pv 0) rfl) (pa_cons (pv 1) pa_nil))) (pg_tup (by rfl) (pgs_cons (pg_tup (by rfl) (pgs_cons (pg_name (i := 2) scSet.nd rfl (Or.inl rfl)) (pgs_cons (pg_name (i := 3) scSet.nd rfl (Or.inl rfl)) pgs_nil))) (pgs_cons (pg_name (i := 4) scSet.nd rfl (Or.inl rfl)) pgs_nil))) (pss_one (ps_asg (pe_op op_cat (pe_slice sl_list (pv 3) po_none (po_some (pv 4))) (pe_slice sl_list (pe_ix ix_list (pe_fld (pv 0) rfl) (pv 2) (fun _ _ => rfl)) (po_some (pv 4)) po_none)) (pg_sub (pe_fld (pv 0) rfl) (pv 2) set_list))))
      (pss_cons (ps_fld (pv 0) (pe_callTy call_list_of (by rfl) T.list (by decide +kernel) (pa_cons (pe_fld (pv 0) rfl) pa_nil)) rfl)
      (pss_one (ps_fld (pv 0) (pe_lst pa_nil) rfl)))), ?_⟩
    refine q_forZ (ea_cons (ev_fld (ev_var rfl) ho T.cl T.nw d_w) (ea_cons (ev_var rfl) ea_nil)) (sq_of w1) (sq_of hc) (fun i σ' H' => ∃ (y2 y3 y4 : Option V) (ks : List Addr), σ' = [some (.ref p), some (.ref c), y2, y3, y4] ∧ Ex G H' ∧ (∀ a, H a ≠ none → H' a ≠ none) ∧ (∀ a o, H a = some o → a ≠ ka → H' a = some o) ∧ H' ka = some (.lst (ks.map V.ref)) ∧ ks.length = 4 * n ∧
      ∀ (j : Nat) (a : Addr), ks[j]? = some a → G a = some (.lst ((aftN d.kept d.ws (fun j => cs.getD j 0) i j).map V.int)) ∨ (H a = none ∧ H' a = some (.lst ((aftN d.kept d.ws (fun j => cs.getD j 0) i j).map V.int)))) ?_ ?_ ?_ ?_
    · intro H1 e1
      obtain ⟨ks, k1, k2, k3⟩ := D.k
      exact ⟨none, none, none, ks, rfl, D.g.trans e1, fun a h z => h (fresh_back e1 z), fun a o h _ => e1 _ _ h, e1 _ _ k1, k2, fun j a ha => .inl (k3 j a ha)⟩
    · rintro i σ' H' ⟨y2, y3, y4, ks, rfl, g', al, fr, k1, k2, k3⟩
      exact ⟨sq_of (fr _ _ w1 D.nkw.symm), sq_of (fr _ _ hc hck)⟩
    · rintro i x y TT σ' H' hx hy ⟨y2, y3, y4, ks, rfl, g', al, fr, k1, k2, k3⟩ hTT
      rw [List.getElem?_map] at hx hy
      obtain ⟨t, ht, rfl⟩ := Option.map_eq_some_iff.mp hx
      obtain ⟨m, hm, hmy⟩ := Option.map_eq_some_iff.mp hy
      obtain rfl : y = V.int (m : Int) := hmy.symm
      have hi : i < d.ws.length := by rw [← w2]; exact (List.getElem?_eq_some_iff.mp ht).1
      have hwi := List.getElem?_eq_getElem hi
      generalize d.ws[i] = wv at hwi
      obtain ⟨l, g1, g2⟩ := w3 i t wv ht hwi
      obtain ⟨hs, h8⟩ := D.ok wv (List.mem_of_getElem? hwi)
      have eN := Ex.new (o := .tup [.ref t, .int (m : Int)]) hTT
      have gN := g'.trans eN
      have kk := eN _ _ k1
      refine ⟨TT, [.ref t, .int (m : Int)], rfl, st_of upd_same, rfl, .ref t, [.int (m : Int)], rfl, t, [.int (wv.1 : Int), .ref l], rfl, st_of (gN _ _ g1), rfl, _, [_], rfl, _, [], rfl, rfl, _, [], rfl, rfl, ?_⟩
      have hks : wv.1 < ks.length := by rw [k2]; exact hs
      have ek := List.getElem?_eq_getElem hks
      generalize ks[wv.1] = b at ek
      have hb : (upd H' TT (.tup [.ref t, .int (m : Int)])) b = some (.lst ((aftN d.kept d.ws (fun j => cs.getD j 0) i wv.1).map V.int)) := by
        rcases k3 _ _ ek with h | h
        · exact gN _ _ h
        · exact eN _ _ h.2
      have hpN := eN _ _ (fr _ _ ho n1)
      generalize upd H' TT (.tup [.ref t, .int (m : Int)]) = HN at *
      have hlen := aft_len (c := fun j => cs.getD j 0) D.kz (fun w hw => (D.ok w hw).2) i (by omega) wv.1
      refine s_setLL (j := wv.1) (ys := ((wv.2.take m ++ (aftN d.kept d.ws (fun j => cs.getD j 0) i wv.1).drop m)).map V.int) kk (el_is (el_catL (el_sl (ev_var rfl) eo_none (eo_some (ev_var rfl)) (sq_of (gN _ _ g2))) (el_sl (ev_op (ev_fld (ev_var rfl) hpN T.cl T.nk d_k) (ev_var rfl) (rv_ixL (v := .ref b) (sq_of kk) (atI_nat (by rw [List.getElem?_map, ek]; rfl)))) (eo_some (ev_var rfl)) eo_none (sq_of hb)) ?_) ?_) (ev_fld (ev_var rfl) hpN T.cl T.nk d_k) (ev_var rfl) (by rw [List.length_map]; exact hks) fun r H2 hr2 e2 h2 => ?_
      · rw [cut_lo, cut_hi, List.length_take, List.length_drop, List.length_map, List.length_map]
        omega
      · rw [cut_lo, cut_hi, List.map_append, List.map_take, List.map_drop]
      · have aN : ∀ a, H a ≠ none → HN a ≠ none := fun a h z => al a h (fresh_back eN z)
        have rk : r ≠ ka := fun e => aN ka ak (by rw [← e]; exact hr2)
        have hr0 : H r = none := Classical.byContradiction fun h => aN r h hr2
        have cN : aftN d.kept d.ws (fun j => cs.getD j 0) (i + 1) = fset (aftN d.kept d.ws (fun j => cs.getD j 0) i) wv.1 (wv.2.take m ++ (aftN d.kept d.ws (fun j => cs.getD j 0) i wv.1).drop m) := by
          show stepA (aftN d.kept d.ws (fun j => cs.getD j 0) i) (d.ws.getD i (0, [])) (cs.getD i 0) = _
          rw [getD_in hwi, getD_in hm]
          rfl
        refine ⟨_, _, _, ks.set wv.1 r, rfl, (gN.trans e2).mut D.gk, fun a h z => ?_, fun a o h hn => ?_, by rw [upd_same, List.map_set], by rw [List.length_set, k2], fun j a ha => ?_⟩
        · by_cases e : a = ka
          · rw [e, upd_same] at z
            cases z
          · rw [upd_ne e] at z
            exact aN a h (fresh_back e2 z)
        · rw [upd_ne hn]
          exact e2 _ _ (eN _ _ (fr a o h hn))
        · rw [cN]
          unfold fset
          by_cases hj : j = wv.1
          · subst hj
            rw [List.getElem?_set_self hks] at ha
            cases ha
            rw [if_pos rfl, upd_ne rk]
            exact .inr ⟨hr0, h2⟩
          · rw [List.getElem?_set_ne (fun e => hj e.symm)] at ha
            rw [if_neg hj]
            refine (k3 j a ha).imp id fun h => ⟨h.1, ?_⟩
            rw [upd_ne (fun e => ak (by rw [← e]; exact h.1))]
            exact e2 _ _ (eN _ _ h.2)
    · rintro σ' H' ⟨y2, y3, y4, ks, rfl, g', al, fr, k1, k2, k3⟩
      have hp' := fr _ _ ho n1
      have eA : aftN d.kept d.ws (fun j => cs.getD j 0) (min (ts.map V.ref).length (cs.map nV).length) = aftN d.kept d.ws (fun j => cs.getD j 0) d.ws.length := by
        rw [List.length_map, List.length_map, w2]
        by_cases h : d.ws.length ≤ cs.length
        · rw [Nat.min_eq_left h]
        · rw [Nat.min_eq_right (by omega)]
          have := aft_stop (f := d.kept) (ws := d.ws) (c := fun j => cs.getD j 0) (i := cs.length) (fun j hj => by
            show cs.getD j 0 = 0
            rw [List.getD_eq_getElem?_getD, List.getElem?_eq_none hj]
            rfl) (d.ws.length - cs.length)
          rw [← this]
          congr 1
          omega
      rw [eA] at k3
      refine q_fldL (el_list (ev_fld (ev_var rfl) hp' T.cl T.nk d_k) (sq_of k1)) (ev_var rfl) hp' T.cl T.ns (by show 6 < 1000; decide) fun s2 H2 hs2 e2 h2 => ?_
      rw [d_ps]
      refine s_fldL (el_lst ea_nil (by simp)) (ev_var rfl) upd_same T.cl T.nw (by show 6 < 1000; decide) fun w4 H4 hw4 e4 h4 => ?_
      rw [d_pw]
      have a2 : ∀ a, H a ≠ none → H2 a ≠ none := fun a h z => al a h (fresh_back e2 z)
      have s2_0 : H s2 = none := Classical.byContradiction fun h => al s2 h hs2
      have pS : p ≠ s2 := fun e => ap (by rw [e]; exact s2_0)
      have kS : ka ≠ s2 := fun e => ak (by rw [e]; exact s2_0)
      have w4_2 : H2 w4 = none := by
        by_cases e : w4 = p
        · rw [e, upd_same] at hw4
          cases hw4
        · rw [upd_ne e] at hw4
          exact hw4
      have w4_0 : H w4 = none := Classical.byContradiction fun h => a2 w4 h w4_2
      have pW : p ≠ w4 := fun e => ap (by rw [e]; exact w4_0)
      have kW : ka ≠ w4 := fun e => ak (by rw [e]; exact w4_0)
      have sW : s2 ≠ w4 := fun e => by
        rw [← e, h2] at w4_2
        cases w4_2
      have fX : ∀ a o, H2 a = some o → a ≠ p → (upd H4 p (.ins C dx (dfl n ka s2 w4 d.pw d.bf))) a = some o := fun a o h hn => by
        rw [upd_ne hn]
        exact e4 _ _ (by rw [upd_ne hn]; exact h)
      have aX : ∀ a, H2 a ≠ none → (upd H4 p (.ins C dx (dfl n ka s2 w4 d.pw d.bf))) a ≠ none := fun a h z => by
        by_cases e : a = p
        · rw [e, upd_same] at z
          cases z
        · rw [upd_ne e] at z
          have z2 := fresh_back e4 z
          rw [upd_ne e] at z2
          exact h z2
      have wX : (upd H4 p (.ins C dx (dfl n ka s2 w4 d.pw d.bf))) w4 = some (.lst []) := by
        rw [upd_ne pW.symm]
        exact h4
      have pX : (upd H4 p (.ins C dx (dfl n ka s2 w4 d.pw d.bf))) p = some (.ins C dx (dfl n ka s2 w4 d.pw d.bf)) := upd_same
      have gX : Ex G (upd H4 p (.ins C dx (dfl n ka s2 w4 d.pw d.bf))) := (((g'.trans e2).mut D.gp).trans e4).mut D.gp
      generalize upd H4 p (.ins C dx (dfl n ka s2 w4 d.pw d.bf)) = HX at *
      have row : ∀ (j : Nat) (a : Addr), ks[j]? = some a → grow G H HX (fun a => a = s2 ∨ a = w4) a = some (.lst ((aftN d.kept d.ws (fun j => cs.getD j 0) d.ws.length j).map V.int)) := fun j a ha => by
        rcases k3 j a ha with h | h
        · exact grow_ex _ _ h
        · have ap' : a ≠ p := fun e => ap (by rw [← e]; exact h.1)
          have as' : a ≠ s2 := fun e => by
            rw [← e, h.2] at hs2
            cases hs2
          have aw' : a ≠ w4 := fun e => by
            have := e2 _ _ h.2
            rw [e, w4_2] at this
            cases this
          exact grow_new (fresh_back D.g h.1) h.1 (fun z => z.elim as' aw') (fX _ _ (e2 _ _ h.2) ap')
      refine q (grow G H HX fun a => a = s2 ∨ a = w4) HX s2 w4 ⟨grow_ex, fun a h g => grow_no h g, fun a h => aX a (a2 a h)⟩ (fun a o h hp hk => fX a o (e2 _ _ (fr a o h hk)) hp)
        ⟨grow_sub gX, grow_no ap D.gp, grow_no ak D.gk, grow_X (.inl rfl) (fresh_back D.g s2_0), grow_X (.inr rfl) (fresh_back D.g w4_0), kS, kW, sW, ⟨dx, pX⟩, ⟨ks, fX _ _ (e2 _ _ k1) n1.symm, k2, row⟩, ⟨ks, fX _ _ h2 pS.symm, k2, row⟩, ⟨[], wX, rfl, fun i t w' ht => by simp at ht⟩, D.n0, D.n1, Nat.zero_le _, fun w' hw' => absurd hw' List.not_mem_nil, aft_len D.kz (fun w hw => (D.ok w hw).2) _ (Nat.le_refl _)⟩
end

end ND

set_option Elab.async false
set_option linter.all false
set_option maxRecDepth 100000
set_option maxHeartbeats 4000000
namespace ND
open PySem PySem.Spec PyProof.Rows L2 Evl LK LT LG LS LQ LX LO LN LP
theorem nV_ints (cs : List Nat) : cs.map nV = (cs.map fun k : Nat => (k : Int)).map V.int := by
  rw [List.map_map]
  rfl
theorem wc_nats : ∀ {xs : List V}, xs.all wc = true → ∃ cs : List Nat, xs = cs.map nV ∧ ∀ k ∈ cs, k ≤ 8
  | [], _ => ⟨[], rfl, fun z hz => absurd hz List.not_mem_nil⟩
  | x :: r, h => by
    rw [List.all_cons, Bool.and_eq_true] at h
    obtain ⟨ns, e, hn⟩ := wc_nats h.2
    cases x with
    | int i =>
      have h0 : (decide (0 ≤ i) && decide (i ≤ 8)) = true := h.1
      have h1 : 0 ≤ i ∧ i ≤ 8 := by simpa using h0
      obtain ⟨k, rfl⟩ := Int.eq_ofNat_of_zero_le h1.1
      exact ⟨k :: ns, by rw [e]; rfl, fun z hz => by
        rcases List.mem_cons.mp hz with rfl | h
        · omega
        · exact hn z h⟩
    | _ => cases h.1
theorem nats_wc {cs : List Nat} (h : ∀ k ∈ cs, k ≤ 8) : (cs.map nV).all wc = true := by
  rw [List.all_eq_true]
  intro x hx
  obtain ⟨z, hz, rfl⟩ := List.mem_map.mp hx
  have := h z hz
  show (decide ((0 : Int) ≤ (z : Int)) && decide ((z : Int) ≤ 8)) = true
  rw [decide_eq_true (by omega), decide_eq_true (by omega)]
  rfl
theorem nV_inj : ∀ {cs ds : List Nat}, cs.map nV = ds.map nV → cs = ds
  | [], [], _ => rfl
  | [], d :: s, h => by simp at h
  | c :: r, [], h => by simp at h
  | c :: r, d :: s, h => by
    rw [List.map_cons, List.map_cons] at h
    injection h with h1 h2
    have h3 : (c : Int) = (d : Int) := V.int.inj h1
    rw [nV_inj h2]
    congr 1
    omega
section
variable {P : Program} {w : World} {K : PySem.W.Frag} {mg : Str → Option Value} {base : Heap} {C CN CO : Addr}
theorem ok_flush {f fB fS : Addr} {fd fdB fdS : FuncData} (F : Fun K "flush" "Disk.flush" sFlush f fd) (Gbegin_operation : FnOk P w K mg base (L2.CX P w) 1 fB fdB ["self"] (spBeg C CO)) (bbegin_operation : Binds K fdB ["self"] []) (mbegin_operation : Meth K C "_begin_operation" fB) (Gsettle_writes : FnOk P w K mg base CX0 1 fS fdS ["self", "choices"] (spSet C)) (bsettle_writes : Binds K fdS ["self", "choices"] []) (msettle_writes : Meth K C "_settle_writes" fS) (T : Txt mg K C) : FnOk P w K mg base (L2.CX P w) 2 f fd ["self"] (spFlush C CO) := by
  obtain ⟨_, gSECTOR_WORDS⟩ := T.gSECTOR_WORDS
  refine F.okX scFlush (fun vs H Q E h => ?_) (fun cdv A outer s H vs Q E hr h => ?_)
  · obtain ⟨G, p, ka, sa, wa, n, d, rfl, _⟩ := h
    rfl
  · obtain ⟨G, p, ka, sa, wa, n, d, rfl, D, q, qO⟩ := h
    obtain ⟨dx, ho⟩ := D.o
    refine ⟨_, (pss_cons (ps_expr (pe_meth0 (pv 0) T.cl mbegin_operation Gbegin_operation (hr.mono (by decide)) bbegin_operation .nil (pass_own (takes_of rfl rfl rfl rfl))))
      (pss_one (ps_expr (pe_meth (pv 0) T.cl msettle_writes Gsettle_writes (hr.mono (by decide)) bsettle_writes .nil pass0 (pa_cons (pe_op op_rep (pe_lst (pa_cons (pe_glob (v := .int 8) rfl gSECTOR_WORDS ⟨_, rfl⟩) pa_nil)) (pe_callB call_len_seq (by rfl) T.len (by decide +kernel) (pa_cons (pe_fld (pv 0) rfl) pa_nil))) pa_nil))))), ?_⟩
    refine q_m (ev_var rfl) ho (d_no ⟨by decide +kernel, by decide +kernel, by decide +kernel, by decide +kernel, by decide +kernel, by decide +kernel⟩) ea_nil fun H2 e2 => ⟨G, p, ka, sa, wa, n, d, rfl, D.ex e2, fun hon H3 al fr D3 => ?_, fun hno H3 al fr D3 => qO hno H3 ⟨Ex.refl _, fun _ _ g => g, fun a h z => al a (fun z => h (fresh_back e2 z)) z⟩ (fun a o h hp => fr a o (e2 _ _ h) hp) D3⟩
    have al3 : ∀ a, H a ≠ none → H3 a ≠ none := fun a h => al a (fun z => h (fresh_back e2 z))
    obtain ⟨dx3, ho3⟩ := D3.o
    obtain ⟨ts, w1, w2, w3⟩ := D3.w
    have hwl : d.ws.length ≤ 100 := D.wl
    have w2' : ts.length = d.ws.length := w2
    refine mR_run (ev_var rfl) ho3 (d_no ⟨by decide +kernel, by decide +kernel, by decide +kernel, by decide +kernel, by decide +kernel, by decide +kernel⟩) (el_rep1 (el_lst (ea_cons ev_c ea_nil) (by simp)) (ev_len (ev_fld (ev_var rfl) ho3 T.cl T.nw d_w) (sq_of w1)) (by omega) (by rw [List.length_map]; omega)) fun c H5 hc e5 h5 => ?_
    have D5 := D3.ex e5
    have hck : c ≠ ka := fun e => D3.al.2.1 (by rw [← e]; exact hc)
    refine ⟨G, p, ka, sa, wa, n, _, c, List.replicate d.ws.length 8, rfl, D5, ?_, hck, fun G' H6 sa' wa' S6 fr6 D6 => ?_⟩
    · rw [h5, List.length_map, w2', List.map_replicate]
      rfl
    · have ec : aftN d.kept d.ws (fun j => (List.replicate d.ws.length 8).getD j 0) d.ws.length = aftN d.kept d.ws (fun _ => 8) d.ws.length := aft_cong fun j hj => by
        rw [List.getD_eq_getElem?_getD, List.getElem?_replicate, if_pos hj]
        rfl
      have D7 : DK C G' H6 p ka sa' wa' n { kept := aftN d.kept d.ws (fun _ => 8) d.ws.length, ws := [], pw := d.pw, bf := d.bf.map (· - 1) } := by
        rw [← ec]
        exact D6
      exact q hon G' H6 sa' wa' ⟨S6.g, fun a h g => S6.n a (fun z => al3 a h (fresh_back e5 z)) g, fun a h => S6.a a (fun z => al3 a h (fresh_back e5 z))⟩ (fun a o h hp hk => fr6 a o (e5 _ _ (fr a o (e2 _ _ h) hp)) hp hk) D7
theorem ok_wait {f : Addr} {fd : FuncData} (F : Fun K "waiting" "Disk.waiting" sWait f fd) (T : Txt mg K C) : FnOk P w K mg base CX0 1 f fd ["self"] (spWait C) := by
  refine F.ok scWait (fun vs H Q E h => ?_) (fun cdv A outer s H vs Q E hr h => ?_)
  · obtain ⟨G, p, ka, sa, wa, n, d, rfl, _⟩ := h
    rfl
  · obtain ⟨G, p, ka, sa, wa, n, d, rfl, D, q⟩ := h
    obtain ⟨dx, ho⟩ := D.o
    obtain ⟨ts, w1, w2, w3⟩ := D.w
    have hwl := D.wl
    refine ⟨_, (pss_one (ps_ret (pe_lc (own := [("sector", 1), ("words", 2)]) (g := gTup K 2 (gCons (gName 1) (gCons (gName 2) gNil))) (tt := tYes) rfl scWait.nd (pi_list (pe_fld (pv 0) rfl)) (blkOk_by (own := [("sector", 1), ("words", 2)]) (N := ["self", "sector", "words"]) (sc := defScope sWait) (by decide +kernel)) (fun _ _ _ _ _ => pg_tup rfl (pgs_cons (pg_name (i := 1) scWait.nd rfl (Or.inl rfl)) (pgs_cons (pg_name (i := 2) scWait.nd rfl (Or.inl rfl)) pgs_nil))) (fun _ _ _ _ _ => pts_nil) (fun _ _ _ _ _ => (pe_tup (pa_cons (pv 1) (pa_cons (pe_callTy (r := rListS K) call_list_of (by rfl) T.list (by decide +kernel) (pa_cons (pv 2) pa_nil)) pa_nil))))))), ?_⟩
    refine er_ret (R := Rw H d.ws) (er_L2 (ev_fld (ev_var rfl) ho T.cl T.nw d_w) (sq_of w1) (by rw [List.length_map]; omega) (fun _ _ => rfl) (rw_mon _ _) (fun i x Dd H1 hD e1 hDn hx => ?_)) fun L ys H1 hL e1 h1 hn hr => q L ys H1 hL e1 h1 (by rw [hn, List.length_map, w2]) hr
    rw [List.getElem?_map] at hx
    obtain ⟨t, ht, rfl⟩ := Option.map_eq_some_iff.mp hx
    have hi : i < d.ws.length := by rw [← w2]; exact (List.getElem?_eq_some_iff.mp ht).1
    have hwi := List.getElem?_eq_getElem hi
    generalize d.ws[i] = wv at hwi
    obtain ⟨l, g1, g2⟩ := w3 i t wv ht hwi
    have gH := D.g.trans e1
    refine ⟨t, _, _, rfl, st_of (gH _ _ g1), fun xs hxs hpre Q' q' => ?_⟩
    refine ⟨.int (wv.1 : Int), rfl, el_list (K := K) (ev_var rfl) (sq_of (gH _ _ g2)) H1 (Ex.refl _) _ fun l2 H2 hl2 e2 h2 => ⟨by show 2 ≤ sizeLine; decide, fun t2 ht2 => ?_⟩⟩
    have eT := Ex.new (o := .tup [.int (wv.1 : Int), .ref l2]) ht2
    have b1 : but Dd (upd H2 t2 (.tup [.int (wv.1 : Int), .ref l2])) t2 = some (.tup [.int (wv.1 : Int), .ref l2]) := but_new hDn (fresh_back e2 ht2) upd_same
    have b2 : but Dd (upd H2 t2 (.tup [.int (wv.1 : Int), .ref l2])) l2 = some (.lst (wv.2.map V.int)) := but_new hDn hl2 (eT _ _ h2)
    refine q' (.ref t2) _ (e2.trans eT) ⟨t2, l2, wv, rfl, hwi, fresh_back (e1.trans e2) ht2, fresh_back e1 hl2, b1, b2, fun t' ht' => ?_⟩
    obtain ⟨j, hj⟩ := List.mem_iff_getElem?.mp ht'
    obtain ⟨t3, l3, w3', e3, _, _, _, h5, h6, _⟩ := hpre j _ hj
    cases e3
    exact ⟨_, l3, ex_but (e2.trans eT) _ _ h5, fun e => by
      have := but_ex _ _ h6
      rw [e, hl2] at this
      cases this⟩
def Rz (H0 : Hp) : Rel := fun _ _ y H => ∃ l, y = .ref l ∧ H0 l = none ∧ H l = some (.lst (Z8.map V.int))
theorem rz_mon (H0 : Hp) : Mon (Rz H0) := fun i prev y H H' e ⟨l, h1, h2, h3⟩ => ⟨l, h1, h2, e _ _ h3⟩
theorem ok_init {f fS : Addr} {fd fdS : FuncData} (F : Fun K "__init__" "Disk.__init__" sInit f fd) (FSz : Fun K "is_size" "is_size" sSize fS fdS) (GSz : FnOk P w K mg base CX0 2 fS fdS ["blocks"] spSize) (bSz : Binds K fdS ["blocks"] []) (gSz : mg "is_size" = some (.ref fS)) (T : Txt mg K C) (XN : Xc K mg "NotValid" CN) : FnOk P w K mg base (L2.CX P w) 3 f fd ["self", "blocks"] (spInit C) := by
  obtain ⟨_, gSECTOR_WORDS⟩ := T.gSECTOR_WORDS
  obtain ⟨_, gBLOCK_SECTORS⟩ := T.gBLOCK_SECTORS
  refine F.okX scInit (fun vs H Q E h => ?_) (fun cdv A outer s H vs Q E hr h => ?_)
  · obtain ⟨G, p, dx, n, rfl, _⟩ := h
    rfl
  · obtain ⟨G, p, dx, n, rfl, g0, gp, ho, h0, h1, q⟩ := h
    refine ⟨_, (pss_cons (ps_if (pt_not (pt_val (pe_call GSz (hr.mono (by decide)) (by rfl) gSz FSz.kp bSz .nil pass0 (pa_cons (pv 1) pa_nil)))) (pss_one (ps_raise0 rfl XN (takes_of rfl rfl rfl rfl) (by rfl))) pss_nil)
      (pss_cons (ps_fld (pv 0) (pv 1) rfl)
      (pss_cons (ps_fld (pv 0) (pe_lc (own := [("_", 2)]) (g := gName 2) (tt := tYes) rfl scInit.nd (pi_range1 (by rfl) T.range (pa_cons (pe_op op_mul (pe_glob (v := .int 4) rfl gBLOCK_SECTORS ⟨_, rfl⟩) (pv 1)) pa_nil)) (blkOk_by (own := [("_", 2)]) (N := ["self", "blocks", "_"]) (sc := defScope sInit) (by decide +kernel)) (fun _ _ _ _ _ => pg_name (i := 2) scInit.nd rfl (Or.inl rfl)) (fun _ _ _ _ _ => pts_nil) (fun _ _ _ _ _ => (pe_op op_rep (pe_lst (pa_cons pe_int pa_nil)) (pe_glob (v := .int 8) rfl gSECTOR_WORDS ⟨_, rfl⟩)))) rfl)
      (pss_cons (ps_fld (pv 0) (pe_callTy call_list_of (by rfl) T.list (by decide +kernel) (pa_cons (pe_fld (pv 0) rfl) pa_nil)) rfl)
      (pss_cons (ps_fld (pv 0) (pe_lst pa_nil) rfl)
      (pss_cons (ps_fld (pv 0) pe_bl rfl)
      (pss_one (ps_fld (pv 0) pe_non rfl)))))))), ?_⟩
    refine q_when (b := false) (et_is (et_not (et_B (ev_call (vs := [.int (n : Int)]) (ea_cons (ev_var rfl) ea_nil) (fun H1 e1 Q' q' E' => ⟨(n : Int), rfl, q'⟩)))) (by
      rw [decide_eq_true (by omega), decide_eq_true (by omega), decide_eq_true (by omega)]
      rfl)) (fun h => by cases h) (fun _ H1 e1 => ?_)
    refine q_fld (ev_var rfl) (ev_var rfl) (e1 _ _ ho) T.cl T.nb (by show 0 < 1000; decide) fun H2 e2 => ?_
    have aP : ∀ {H' H'' : Hp} {o : HO}, (∀ a, H a ≠ none → H' a ≠ none) → Ex H' H'' → ∀ a, H a ≠ none → (upd H'' p o) a ≠ none := fun h e a ha z => by
      by_cases ep : a = p
      · rw [ep, upd_same] at z
        cases z
      · rw [upd_ne ep] at z
        exact h a ha (fresh_back e z)
    have fP : ∀ {H' H'' : Hp} {o : HO}, (∀ a u, H a = some u → a ≠ p → H' a = some u) → Ex H' H'' → ∀ a u, H a = some u → a ≠ p → (upd H'' p o) a = some u := fun h e a u ha hn => by
      rw [upd_ne hn]
      exact e _ _ (h a u ha hn)
    have a2 := aP (o := .ins C dx (putF "blocks" (.int (n : Int)) [])) (fun a ha => ha) (e1.trans e2)
    have f2 := fP (o := .ins C dx (putF "blocks" (.int (n : Int)) [])) (fun a u ha _ => ha) (e1.trans e2)
    have g2 : Ex G (upd H2 p (.ins C dx (putF "blocks" (.int (n : Int)) []))) := ((g0.trans e1).trans e2).mut gp
    have p2 : (upd H2 p (.ins C dx (putF "blocks" (.int (n : Int)) []))) p = some (.ins C dx [(("blocks" : Str), .int (n : Int))]) := upd_same
    generalize upd H2 p (.ins C dx (putF "blocks" (.int (n : Int)) [])) = H3 at *
    refine q_fldR (n := (4 * (n : Int)).toNat) (R := Rz H3) (er_R1 (ea_cons (ev_op ev_c (ev_var rfl) (rv_I (.inl ⟨by decide, by decide⟩))) ea_nil) ⟨by omega, by omega⟩ (fun _ => rfl) (rz_mon _) (fun i Dd H4 hD e4 hDn hi xs hxs hpre Q' q' => ?_)) (ev_var rfl) p2 T.cl T.nk (by show 1 < 1000; decide) fun ka xs H4 H5 hk4 e4 e5 h5 hxl hrow => ?_
    · exact el_rep1 (el_lst (ea_cons ev_c ea_nil) (by simp)) ev_c (by decide) (by decide) H4 (Ex.refl _) _ fun l H5 hl e5 h5 => q' (.ref l) H5 e5 ⟨l, rfl, fresh_back e4 hl, but_new hDn hl h5⟩
    have hkp : ka ≠ p := fun e => by rw [e, p2] at hk4; cases hk4
    have e45 := e4.trans e5
    have a4 := aP (o := .ins C dx (putF "_kept" (.ref ka) [(("blocks" : Str), .int (n : Int))])) a2 e45
    have f4 := fP (o := .ins C dx (putF "_kept" (.ref ka) [(("blocks" : Str), .int (n : Int))])) f2 e45
    have g4 : Ex G (upd H5 p (.ins C dx (putF "_kept" (.ref ka) [(("blocks" : Str), .int (n : Int))]))) := (g2.trans e45).mut gp
    have p4 : (upd H5 p (.ins C dx (putF "_kept" (.ref ka) [(("blocks" : Str), .int (n : Int))]))) p = some (.ins C dx [(("blocks" : Str), .int (n : Int)), (("_kept" : Str), .ref ka)]) := upd_same
    have k4 : (upd H5 p (.ins C dx (putF "_kept" (.ref ka) [(("blocks" : Str), .int (n : Int))]))) ka = some (.lst xs) := by rw [upd_ne hkp]; exact h5
    have r4 : ∀ (i : Nat) (y : V), xs[i]? = some y → ∃ l, y = V.ref l ∧ H3 l = none ∧ (upd H5 p (.ins C dx (putF "_kept" (.ref ka) [(("blocks" : Str), .int (n : Int))]))) l = some (.lst (Z8.map V.int)) := fun i y hy => by
      obtain ⟨l, h1, h2, h3⟩ := hrow i y hy
      refine ⟨l, h1, h2, ?_⟩
      rw [upd_ne (fun e => by rw [e, p2] at h2; cases h2)]
      exact e5 _ _ h3
    generalize upd H5 p (.ins C dx (putF "_kept" (.ref ka) [(("blocks" : Str), .int (n : Int))])) = H6 at *
    refine q_fldL (el_list (ev_fld (ev_var rfl) p4 T.cl T.nk rfl) (sq_of k4)) (ev_var rfl) p4 T.cl T.ns (by show 2 < 1000; decide) fun sa H7 hs7 e7 h7 => ?_
    have hsp : sa ≠ p := fun e => by rw [e, p4] at hs7; cases hs7
    have hsk : ka ≠ sa := ne_of_none k4 hs7
    have a7 := aP (o := .ins C dx (putF "_shown" (.ref sa) [(("blocks" : Str), .int (n : Int)), (("_kept" : Str), .ref ka)])) a4 e7
    have f7 := fP (o := .ins C dx (putF "_shown" (.ref sa) [(("blocks" : Str), .int (n : Int)), (("_kept" : Str), .ref ka)])) f4 e7
    have g7 : Ex G (upd H7 p (.ins C dx (putF "_shown" (.ref sa) [(("blocks" : Str), .int (n : Int)), (("_kept" : Str), .ref ka)]))) := (g4.trans e7).mut gp
    have p7 : (upd H7 p (.ins C dx (putF "_shown" (.ref sa) [(("blocks" : Str), .int (n : Int)), (("_kept" : Str), .ref ka)]))) p = some (.ins C dx [(("blocks" : Str), .int (n : Int)), (("_kept" : Str), .ref ka), (("_shown" : Str), .ref sa)]) := upd_same
    have x7 : ∀ a o, H6 a = some o → a ≠ p → (upd H7 p (.ins C dx (putF "_shown" (.ref sa) [(("blocks" : Str), .int (n : Int)), (("_kept" : Str), .ref ka)]))) a = some o := fun a o h hn => by rw [upd_ne hn]; exact e7 _ _ h
    have s7 : (upd H7 p (.ins C dx (putF "_shown" (.ref sa) [(("blocks" : Str), .int (n : Int)), (("_kept" : Str), .ref ka)]))) sa = some (.lst xs) := by rw [upd_ne hsp]; exact h7
    generalize upd H7 p (.ins C dx (putF "_shown" (.ref sa) [(("blocks" : Str), .int (n : Int)), (("_kept" : Str), .ref ka)])) = H8 at *
    refine q_fldL (el_lst ea_nil (by simp)) (ev_var rfl) p7 T.cl T.nw (by show 3 < 1000; decide) fun wa H9 hw9 e9 h9 => ?_
    have hwp : wa ≠ p := fun e => by rw [e, p7] at hw9; cases hw9
    have hws : sa ≠ wa := ne_of_none s7 hw9
    have hwk : ka ≠ wa := ne_of_none (x7 _ _ k4 hkp) hw9
    have a9 := aP (o := .ins C dx (putF "_writes" (.ref wa) [(("blocks" : Str), .int (n : Int)), (("_kept" : Str), .ref ka), (("_shown" : Str), .ref sa)])) a7 e9
    have f9 := fP (o := .ins C dx (putF "_writes" (.ref wa) [(("blocks" : Str), .int (n : Int)), (("_kept" : Str), .ref ka), (("_shown" : Str), .ref sa)])) f7 e9
    have g9 : Ex G (upd H9 p (.ins C dx (putF "_writes" (.ref wa) [(("blocks" : Str), .int (n : Int)), (("_kept" : Str), .ref ka), (("_shown" : Str), .ref sa)]))) := (g7.trans e9).mut gp
    have p9 : (upd H9 p (.ins C dx (putF "_writes" (.ref wa) [(("blocks" : Str), .int (n : Int)), (("_kept" : Str), .ref ka), (("_shown" : Str), .ref sa)]))) p = some (.ins C dx [(("blocks" : Str), .int (n : Int)), (("_kept" : Str), .ref ka), (("_shown" : Str), .ref sa), (("_writes" : Str), .ref wa)]) := upd_same
    have x9 : ∀ a o, H8 a = some o → a ≠ p → (upd H9 p (.ins C dx (putF "_writes" (.ref wa) [(("blocks" : Str), .int (n : Int)), (("_kept" : Str), .ref ka), (("_shown" : Str), .ref sa)]))) a = some o := fun a o h hn => by rw [upd_ne hn]; exact e9 _ _ h
    have w9 : (upd H9 p (.ins C dx (putF "_writes" (.ref wa) [(("blocks" : Str), .int (n : Int)), (("_kept" : Str), .ref ka), (("_shown" : Str), .ref sa)]))) wa = some (.lst []) := by rw [upd_ne hwp]; exact h9
    generalize upd H9 p (.ins C dx (putF "_writes" (.ref wa) [(("blocks" : Str), .int (n : Int)), (("_kept" : Str), .ref ka), (("_shown" : Str), .ref sa)])) = H10 at *
    refine q_fld ev_c (ev_var rfl) p9 T.cl T.np (by show 4 < 1000; decide) fun H11 e11 => ?_
    refine s_fld ev_c (ev_var rfl) upd_same T.cl T.nf (by show 5 < 1000; decide) fun H12 e12 => ?_
    show Q .non (upd H12 p (.ins C dx (dfl n ka sa wa true none)))
    have x12 : ∀ a o, H10 a = some o → a ≠ p → (upd H12 p (.ins C dx (dfl n ka sa wa true none))) a = some o := fun a o h hn => by
      rw [upd_ne hn]
      exact e12 _ _ (by rw [upd_ne hn]; exact e11 _ _ h)
    have a12 := aP (o := .ins C dx (dfl n ka sa wa true none)) (aP (o := .ins C dx (putF "_powered" (V.bl true) [(("blocks" : Str), .int (n : Int)), (("_kept" : Str), .ref ka), (("_shown" : Str), .ref sa), (("_writes" : Str), .ref wa)])) a9 e11) e12
    have g12 : Ex G (upd H12 p (.ins C dx (dfl n ka sa wa true none))) := (((g9.trans e11).mut gp).trans e12).mut gp
    have p12 : (upd H12 p (.ins C dx (dfl n ka sa wa true none))) p = some (.ins C dx (dfl n ka sa wa true none)) := upd_same
    generalize upd H12 p (.ins C dx (dfl n ka sa wa true none)) = HX at *
    have k0 : H ka = none := Classical.byContradiction fun h => a2 ka h hk4
    have s0 : H sa = none := Classical.byContradiction fun h => a4 sa h hs7
    have w0 : H wa = none := Classical.byContradiction fun h => a7 wa h hw9
    have toX : ∀ a o, H6 a = some o → a ≠ p → HX a = some o := fun a o h hn => x12 _ _ (x9 _ _ (x7 _ _ h hn) hn) hn
    obtain ⟨ks, hks⟩ : ∃ ks : List Addr, xs = ks.map V.ref := by
      refine refs_of fun y hy => ?_
      obtain ⟨i, hi⟩ := List.mem_iff_getElem?.mp hy
      obtain ⟨l, h, _⟩ := r4 i y hi
      exact ⟨l, h⟩
    have hkl : ks.length = 4 * n := by
      have := hxl
      rw [hks, List.length_map] at this
      omega
    have row : ∀ (j : Nat) (a : Addr), ks[j]? = some a → grow G H HX (fun a => a = ka ∨ a = sa ∨ a = wa) a = some (.lst (Z8.map V.int)) := fun j a ha => by
      obtain ⟨l, e, hl3, hl6⟩ := r4 j (.ref a) (by rw [hks, List.getElem?_map, ha]; rfl)
      cases e
      have hap : a ≠ p := fun e => by rw [e, p2] at hl3; cases hl3
      have ha0 : H a = none := Classical.byContradiction fun h => a2 a h hl3
      refine grow_new (fresh_back g0 ha0) ha0 ?_ (toX a _ hl6 hap)
      rintro (e | e | e)
      · rw [e, k4, hks] at hl6
        cases ks with
        | nil => simp at ha
        | cons c r => simp [Z8] at hl6
      · rw [e, hs7] at hl6
        cases hl6
      · rw [e] at hl6
        have := x7 _ _ hl6 hwp
        rw [hw9] at this
        cases this
    have ap : H p ≠ none := by rw [ho]; exact fun z => by cases z
    refine q (grow G H HX fun a => a = ka ∨ a = sa ∨ a = wa) ka sa wa HX ⟨grow_ex, fun a h g => grow_no h g, a12⟩ (fun a o h hp => x12 _ _ (f9 a o h hp) hp)
      ⟨grow_sub g12, grow_no ap gp, grow_X (.inl rfl) (fresh_back g0 k0), grow_X (.inr (.inl rfl)) (fresh_back g0 s0), grow_X (.inr (.inr rfl)) (fresh_back g0 w0), hsk, hwk, hws, ⟨dx, p12⟩, ⟨ks, by rw [← hks]; exact toX _ _ k4 hkp, hkl, row⟩, ⟨ks, by rw [← hks]; exact x12 _ _ (x9 _ _ s7 hsp) hsp, hkl, row⟩, ⟨[], x12 _ _ w9 hwp, rfl, fun i t w' ht => by simp at ht⟩, h0, h1, Nat.zero_le _, fun w' hw' => absurd hw' List.not_mem_nil, fun _ => rfl⟩
end

end ND

set_option Elab.async false
set_option linter.all false
set_option maxRecDepth 100000
set_option maxHeartbeats 4000000
namespace NS
open PySem PySem.Spec PyProof.Rows L2 Evl LK LT LG LS LQ LX LO
def top (i : Nat) : Stmt := PySem.Challenge.pw_laminae_k14_whole_tree_stays_balanced.main.body.getD i (.Pass ⟨0, 0, 0, 0⟩)
abbrev sIw : Stmt := top 8
theorem scIw : FnScope ["value"] ["value"] (defScope sIw) := ⟨rfl, rfl, rfl, by decide +kernel, rfl, by decide +kernel, by decide +kernel⟩
abbrev sInit : Stmt := inClass (top 69) 0
theorem scInit : FnScope ["self", "uses", "count"] ["self", "uses"] (defScope sInit) := ⟨rfl, rfl, rfl, by decide +kernel, rfl, by decide +kernel, by decide +kernel⟩
abbrev sTake : Stmt := inClass (top 69) 1
theorem scTake : FnScope ["self", "reserve", "block"] ["self", "reserve"] (defScope sTake) := ⟨rfl, rfl, rfl, by decide +kernel, rfl, by decide +kernel, by decide +kernel⟩
abbrev sLeast : Stmt := inClass (top 69) 2
theorem scLeast : FnScope ["self", "block"] ["self"] (defScope sLeast) := ⟨rfl, rfl, rfl, by decide +kernel, rfl, by decide +kernel, by decide +kernel⟩
abbrev sShare : Stmt := inClass (top 69) 3
theorem scShare : FnScope ["self", "block"] ["self", "block"] (defScope sShare) := ⟨rfl, rfl, rfl, by decide +kernel, rfl, by decide +kernel, by decide +kernel⟩
abbrev sDrop : Stmt := inClass (top 69) 4
theorem scDrop : FnScope ["self", "block"] ["self", "block"] (defScope sDrop) := ⟨rfl, rfl, rfl, by decide +kernel, rfl, by decide +kernel, by decide +kernel⟩
abbrev sUses : Stmt := inClass (top 69) 5
theorem scUses : FnScope ["self", "block"] ["self", "block"] (defScope sUses) := ⟨rfl, rfl, rfl, by decide +kernel, rfl, by decide +kernel, by decide +kernel⟩
abbrev sNew : Stmt := inClass (top 69) 7
theorem scNew : FnScope ["self", "block"] ["self", "block"] (defScope sNew) := ⟨rfl, rfl, rfl, by decide +kernel, rfl, by decide +kernel, by decide +kernel⟩
abbrev sFree : Stmt := inClass (top 69) 8
theorem scFree : FnScope ["self", "block"] ["self", "block"] (defScope sFree) := ⟨rfl, rfl, rfl, by decide +kernel, rfl, by decide +kernel, by decide +kernel⟩
abbrev sFr : Stmt := inClass (top 69) 9
theorem scFr : FnScope ["self"] ["self"] (defScope sFr) := ⟨rfl, rfl, rfl, by decide +kernel, rfl, by decide +kernel, by decide +kernel⟩
abbrev sCu : Stmt := inClass (top 69) 14
theorem scCu : FnScope ["self", "held", "count", "now_held"] ["self", "held"] (defScope sCu) := ⟨rfl, rfl, rfl, by decide +kernel, rfl, by decide +kernel, by decide +kernel⟩
abbrev sCe : Stmt := inClass (top 69) 15
theorem scCe : FnScope ["self", "block"] ["self", "block"] (defScope sCe) := ⟨rfl, rfl, rfl, by decide +kernel, rfl, by decide +kernel, by decide +kernel⟩
abbrev sCk : Stmt := inClass (top 69) 16
theorem scCk : FnScope ["self", "block"] ["self", "block"] (defScope sCk) := ⟨rfl, rfl, rfl, by decide +kernel, rfl, by decide +kernel, by decide +kernel⟩
structure Txt (mg : Str → Option Value) (K : PySem.W.Frag) (C : Addr) : Prop where
  len : mg "len" = none
  range : mg "range" = none
  list : mg "list" = none
  isinstance : mg "isinstance" = none
  zip : mg "zip" = none
  int : mg "int" = none
  bool : mg "bool" = none
  gFIRST_BLOCK : ∃ t, mg "FIRST_BLOCK" = some (.int 5 t)
  cl : Cls K C
  nB : NoAttr K C "blocks"
  nC : NoAttr K C "_counts"
  nH : NoAttr K C "_held"
  mgC : mg "Space" = some (.ref C)
/-! ### a space: its fields, its lists -/
def flds (n : Int) (cl hl : Addr) : List (Str × V) := [(("blocks" : Str), .int n), (("_counts" : Str), .ref cl), (("_held" : Str), .ref hl)]
theorem fl_b (n : Int) (cl hl : Addr) : (flds n cl hl).lookup ("blocks" : Str) = some (V.int n) := rfl
theorem fl_c (n : Int) (cl hl : Addr) : (flds n cl hl).lookup ("_counts" : Str) = some (V.ref cl) := rfl
theorem fl_h (n : Int) (cl hl : Addr) : (flds n cl hl).lookup ("_held" : Str) = some (V.ref hl) := rfl
theorem fl_pc (n : Int) (cl hl cl' : Addr) : putF "_counts" (V.ref cl') (flds n cl hl) = flds n cl' hl := rfl
theorem fl_ph (n : Int) (cl hl hl' : Addr) : putF "_held" (V.ref hl') (flds n cl hl) = flds n cl hl' := rfl
theorem fl_0 (n : Int) : putF "blocks" (V.int n) [] = [(("blocks" : Str), V.int n)] := rfl
theorem fl_1 (n : Int) (cl : Addr) : putF "_counts" (V.ref cl) [(("blocks" : Str), V.int n)] = [(("blocks" : Str), V.int n), (("_counts" : Str), V.ref cl)] := rfl
theorem fl_2 (n : Int) (cl hl : Addr) : putF "_held" (V.ref hl) [(("blocks" : Str), V.int n), (("_counts" : Str), V.ref cl)] = flds n cl hl := rfl
theorem fl_no (n : Int) (cl hl : Addr) {m : Str} (h : m ≠ "blocks" ∧ m ≠ "_counts" ∧ m ≠ "_held") : (flds n cl hl).lookup m = Option.none := by
  unfold flds
  rw [List.lookup_cons, beq_false_of_ne h.1, List.lookup_cons, beq_false_of_ne h.2.1, List.lookup_cons, beq_false_of_ne h.2.2]
  rfl
structure Sp' (C : Addr) (H : Hp) (p cl hl : Addr) (cs : List Int) (hs : List Bool) : Prop where
  len : cs.length = hs.length
  le : cs.length ≤ 256
  o : ∃ dx, H p = some (.ins C dx (flds cs.length cl hl))
  c : H cl = some (.lst (cs.map V.int))
  h : H hl = some (.lst (hs.map V.bl))
theorem Sp'.ex {C : Addr} {H H' : Hp} {p cl hl : Addr} {cs : List Int} {hs : List Bool} (s : Sp' C H p cl hl cs hs) (e : Ex H H') : Sp' C H' p cl hl cs hs := ⟨s.len, s.le, let ⟨dx, h⟩ := s.o; ⟨dx, e _ _ h⟩, e _ _ s.c, e _ _ s.h⟩
def cv (cs : List Int) (k : Nat) : Int := cs.getD k 0
def hv (hs : List Bool) (k : Nat) : Bool := hs.getD k false
theorem cv_at {cs : List Int} {k : Nat} (hk : k < cs.length) : (cs.map V.int)[k]? = some (.int (cv cs k)) := cellv_in hk
theorem hv_at {hs : List Bool} {k : Nat} (hk : k < hs.length) : (hs.map V.bl)[k]? = some (.bl (hv hs k)) := by
  rw [List.getElem?_map, List.getElem?_eq_getElem hk]
  unfold hv
  rw [List.getD_eq_getElem?_getD, List.getElem?_eq_getElem hk]
  rfl
/-- is block k free | which are -/
def fr1 (cs : List Int) (hs : List Bool) (b : Bool) (k : Nat) : Bool := decide (V.int (cv cs k) = V.int 0) && decide (V.bl (hv hs k) = V.bl b)
def fr (cs : List Int) (hs : List Bool) (b : Bool) : List Nat := (List.range cs.length).filter (fr1 cs hs b)
theorem fr_lt {cs : List Int} {hs : List Bool} {b : Bool} {k : Nat} (h : k ∈ fr cs hs b) : k < cs.length := List.mem_range.mp (List.mem_filter.mp h).1
theorem fr_len (cs : List Int) (hs : List Bool) (b : Bool) : (fr cs hs b).length ≤ cs.length := by
  have := List.length_filter_le (fr1 cs hs b) (List.range cs.length)
  rw [List.length_range] at this
  exact this
def headV (l : List Nat) : V := match l with
  | [] => .non
  | k :: _ => .int (k : Int)
theorem head_some {cs : List Int} {hs : List Bool} {b : Bool} {i : Nat} (hi : i < cs.length) (h : fr1 cs hs b i = true) (hn : ∀ j, j < i → fr1 cs hs b j = false) : headV (fr cs hs b) = .int (i : Int) := by
  have e : (fr cs hs b).head? = some i := by
    unfold fr
    rw [List.head?_filter, List.find?_range_eq_some]
    exact ⟨h, List.mem_range.mpr hi, fun j hj => by rw [hn j hj]; rfl⟩
  cases hf : fr cs hs b with
  | nil => rw [hf] at e; cases e
  | cons x r => rw [hf] at e; cases e; rfl
theorem head_none {cs : List Int} {hs : List Bool} {b : Bool} (hn : ∀ j, j < cs.length → fr1 cs hs b j = false) : headV (fr cs hs b) = .non := by
  have e : fr cs hs b = [] := List.filter_eq_nil_iff.mpr fun j hj => by rw [hn j (List.mem_range.mp hj)]; decide
  rw [e]
  rfl
theorem head_of {cs : List Int} {hs : List Bool} {b : Bool} (h : 0 < (fr cs hs b).length) : ∃ k, headV (fr cs hs b) = .int ((k : Nat) : Int) ∧ k < cs.length ∧ (fr cs hs b)[0]? = some k := by
  cases hf : fr cs hs b with
  | nil => rw [hf] at h; cases h
  | cons x r =>
    have : x ∈ fr cs hs b := by rw [hf]; exact List.mem_cons_self
    exact ⟨x, rfl, fr_lt this, rfl⟩
end NS

set_option Elab.async false
set_option linter.all false
set_option maxRecDepth 100000
set_option maxHeartbeats 4000000
namespace NS
open PySem PySem.Spec PyProof.Rows L2 Evl LK LT LG LS LQ LX LO
/-! ### the methods' promises -/
def spIw : Sp := fun vs H Q _ => ∃ z : Int, vs = [.int z] ∧ RetV (.bl (decide (0 ≤ z))) H Q
def In (cs : List Int) (z : Int) : Prop := 0 ≤ z ∧ z < cs.length
/-- asked at a block: a value where the block exists, else NotValid -/
def spAt (C N : Addr) (ok : List Int → Int → Prop) (f : List Int → List Bool → Nat → V) : Sp := fun vs H Q E => ∃ p cl hl cs hs z, vs = [.ref p, .int z] ∧ Sp' C H p cl hl cs hs ∧ (∀ k : Nat, z = (k : Int) → k < cs.length → ok cs z → RetV (f cs hs k) H Q) ∧ (¬ (In cs z ∧ ok cs z) → ∀ H', Ex H H' → E (.ref N) none H')
def always : List Int → Int → Prop := fun _ _ => True
def used : List Int → Int → Prop := fun cs z => 5 ≤ z ∧ cv cs z.toNat ≠ 0
section
variable {P : Program} {w : World} {K : PySem.W.Frag} {mg : Str → Option Value} {base : Heap} {C CN CS : Addr}
theorem nat_of {cs : List Int} {z : Int} (h : In cs z) : ∃ k : Nat, z = (k : Int) ∧ k < cs.length := ⟨z.toNat, by have := h.1; omega, by have := h.1; have := h.2; omega⟩
theorem ok_iw {f : Addr} {fd : FuncData} (F : Fun K "is_word" "is_word" sIw f fd) (T : Txt mg K C) : FnOk P w K mg base CX0 1 f fd ["value"] spIw := by
  refine F.ok scIw (fun vs H Q E h => ?_) (fun cdv A outer s H vs Q E hr h => ?_)
  · obtain ⟨z, rfl, _⟩ := h
    rfl
  · obtain ⟨z, rfl, q⟩ := h
    refine ⟨_, (pss_one (ps_ret (pe_and (pe_callB call_isi (by rfl) T.isinstance (by decide +kernel) (pa_cons (pv 0) (pa_cons (pe_bltn (v := .ty "int") (u := .type "int") (by rfl) T.int (by decide +kernel) rfl) pa_nil))) (pe_and (pe_not (pe_callB call_isi (by rfl) T.isinstance (by decide +kernel) (pa_cons (pv 0) (pa_cons (pe_bltn (v := .ty "bool") (u := .type "bool") (by rfl) T.bool (by decide +kernel) rfl) pa_nil)))) (pe_one (pe_cmpR op_ge (pv 0) pe_int (nomark _))))))), ?_⟩
    exact s_ret (ev_is (ev_andV (ev_isi (b := true) (ev_var rfl) ev_c (fun _ _ => .base (.int _)) (kit_ty rfl)) (fun _ => ev_andV (ev_notV (ev_isi (b := false) (ev_var rfl) ev_c (fun _ _ => .base (.int _)) (kit_ty rfl))) (fun _ => ev_op (ev_var rfl) ev_c rv_I0))) (by simp)) fun H1 e1 => q H1 e1
theorem ok_ce {f fW : Addr} {fd fdW : FuncData} (F : Fun K "_check_exists" "Space._check_exists" sCe f fd) (FW : Fun K "is_word" "is_word" sIw fW fdW) (bW : Binds K fdW ["value"] []) (gW : mg "is_word" = some (.ref fW)) (T : Txt mg K C) (XN : Xc K mg "NotValid" CN) : FnOk P w K mg base (L2.CX P w) 2 f fd ["self", "block"] (spAt C CN always fun _ _ _ => .non) := by
  have GW : FnOk P w K mg base CX0 1 fW fdW ["value"] spIw := ok_iw FW T
  refine F.okX scCe (fun vs H Q E h => ?_) (fun cdv A outer s H vs Q E hr h => ?_)
  · obtain ⟨p, cl, hl, cs, hs, z, rfl, _⟩ := h
    rfl
  · obtain ⟨p, cl, hl, cs, hs, z, rfl, S, q, qE⟩ := h
    obtain ⟨dx, ho⟩ := S.o
    refine ⟨_, (pss_one (ps_if (PW.pt (pw_or (pt_not (pt_val (pe_call GW (hr.mono (by decide)) (by rfl) gW FW.kp bW .nil pass0 (pa_cons (pv 1) pa_nil)))) (pw_or1 (pt_cmpR op_ge (pv 1) (pe_fld (pv 0) rfl) (nomark _))))) (pss_one (ps_raise0 rfl XN (takes_of rfl rfl rfl rfl) (by rfl))) pss_nil)), ?_⟩
    refine s_when (et_or (et_not (et_B (ev_call (vs := [.int z]) (ea_cons (ev_var rfl) ea_nil) (fun H1 e1 Q' q' E' => ⟨z, rfl, q'⟩)))) (fun _ => et_test (ev_op (ev_var rfl) (ev_fld (ev_var rfl) ho T.cl T.nB (fl_b _ _ _)) rv_I0))) (fun hb H1 e1 => ?_) (fun hb H1 e1 => ?_)
    · refine qE (fun h => ?_) H1 e1
      obtain ⟨h0, h1⟩ := h.1
      simp at hb
      omega
    · simp at hb
      obtain ⟨k, hk, hlt⟩ := nat_of (cs := cs) (z := z) ⟨by omega, by omega⟩
      exact q k hk hlt True.intro H1 e1
theorem ok_ck {f fC : Addr} {fd fdC : FuncData} (F : Fun K "_check_used" "Space._check_used" sCk f fd) (Gcheck_exists : FnOk P w K mg base (L2.CX P w) 2 fC fdC ["self", "block"] (spAt C CN always fun _ _ _ => .non)) (bcheck_exists : Binds K fdC ["self", "block"] []) (mcheck_exists : Meth K C "_check_exists" fC) (T : Txt mg K C) (XN : Xc K mg "NotValid" CN) : FnOk P w K mg base (L2.CX P w) 3 f fd ["self", "block"] (spAt C CN used fun _ _ _ => .non) := by
  obtain ⟨_, gFIRST_BLOCK⟩ := T.gFIRST_BLOCK
  refine F.okX scCk (fun vs H Q E h => ?_) (fun cdv A outer s H vs Q E hr h => ?_)
  · obtain ⟨p, cl, hl, cs, hs, z, rfl, _⟩ := h
    rfl
  · obtain ⟨p, cl, hl, cs, hs, z, rfl, S, q, qE⟩ := h
    obtain ⟨dx, ho⟩ := S.o
    refine ⟨_, (pss_cons (ps_expr (pe_meth (pv 0) T.cl mcheck_exists Gcheck_exists (hr.mono (by decide)) bcheck_exists .nil (pass_own (takes_of rfl rfl rfl rfl)) (pa_cons (pv 1) pa_nil)))
      (pss_one (ps_if (PW.pt (pw_or (pt_cmpR op_lt (pv 1) (pe_glob (v := .int 5) rfl gFIRST_BLOCK ⟨_, rfl⟩) (nomark _)) (pw_or1 (pt_cmpR op_eq (pe_ix ix_list (pe_fld (pv 0) rfl) (pv 1) (fun _ _ => rfl)) pe_int (nomark _))))) (pss_one (ps_raise0 rfl XN (takes_of rfl rfl rfl rfl) (by rfl))) pss_nil))), ?_⟩
    refine q_m (ev_var rfl) ho (fl_no _ _ _ ⟨by decide +kernel, by decide +kernel, by decide +kernel⟩) (ea_cons (ev_var rfl) ea_nil) fun H1 e1 => ⟨p, cl, hl, cs, hs, z, rfl, S.ex e1, fun k hk hlt _ H2 e2 => ?_, fun hn H2 e2 => qE (fun h => hn ⟨h.1, True.intro⟩) H2 (e1.trans e2)⟩
    subst hk
    have S2 := S.ex (e1.trans e2)
    obtain ⟨dx2, ho2⟩ := S2.o
    refine s_when (et_or (et_test (ev_op (ev_var rfl) ev_c rv_I0)) (fun _ => et_test (ev_op (ev_op (ev_fld (ev_var rfl) ho2 T.cl T.nC (fl_c _ _ _)) (ev_var rfl) (rv_ixL (sq_of S2.c) (atI_nat (cv_at hlt)))) ev_c (rv_eq rfl)))) (fun hb H3 e3 => ?_) (fun hb H3 e3 => ?_)
    · refine qE (fun h => ?_) H3 ((e1.trans e2).trans e3)
      obtain ⟨h0, h5, h6⟩ := h
      rw [Int.toNat_natCast] at h6
      simp at hb
      rcases hb with hb | hb
      · omega
      · exact h6 hb
    · simp at hb
      exact q k rfl hlt ⟨by omega, by rw [Int.toNat_natCast]; exact hb.2⟩ H3 ((e1.trans e2).trans e3)
theorem ok_uses {f fC : Addr} {fd fdC : FuncData} (F : Fun K "uses" "Space.uses" sUses f fd) (Gcheck_exists : FnOk P w K mg base (L2.CX P w) 2 fC fdC ["self", "block"] (spAt C CN always fun _ _ _ => .non)) (bcheck_exists : Binds K fdC ["self", "block"] []) (mcheck_exists : Meth K C "_check_exists" fC) (T : Txt mg K C) : FnOk P w K mg base (L2.CX P w) 3 f fd ["self", "block"] (spAt C CN always fun cs _ k => .int (cv cs k)) := by
  refine F.okX scUses (fun vs H Q E h => ?_) (fun cdv A outer s H vs Q E hr h => ?_)
  · obtain ⟨p, cl, hl, cs, hs, z, rfl, _⟩ := h
    rfl
  · obtain ⟨p, cl, hl, cs, hs, z, rfl, S, q, qE⟩ := h
    obtain ⟨dx, ho⟩ := S.o
    refine ⟨_, (pss_cons (ps_expr (pe_meth (pv 0) T.cl mcheck_exists Gcheck_exists (hr.mono (by decide)) bcheck_exists .nil (pass_own (takes_of rfl rfl rfl rfl)) (pa_cons (pv 1) pa_nil)))
      (pss_one (ps_ret (pe_ix ix_list (pe_fld (pv 0) rfl) (pv 1) (fun _ _ => rfl))))), ?_⟩
    refine q_m (ev_var rfl) ho (fl_no _ _ _ ⟨by decide +kernel, by decide +kernel, by decide +kernel⟩) (ea_cons (ev_var rfl) ea_nil) fun H1 e1 => ⟨p, cl, hl, cs, hs, z, rfl, S.ex e1, fun k hk hlt _ H2 e2 => ?_, fun hn H2 e2 => qE hn H2 (e1.trans e2)⟩
    subst hk
    have S2 := S.ex (e1.trans e2)
    obtain ⟨dx2, ho2⟩ := S2.o
    exact s_ret (ev_op (ev_fld (ev_var rfl) ho2 T.cl T.nC (fl_c _ _ _)) (ev_var rfl) (rv_ixL (sq_of S2.c) (atI_nat (cv_at hlt)))) fun H3 e3 => q k rfl hlt True.intro H3 ((e1.trans e2).trans e3)
/-- uses(block), where the block exists -/
theorem sv_uses {H : Hp} {p cl hl : Addr} {cs : List Int} {hs : List Bool} {k : Nat} {f : List Int → List Bool → Nat → V} (S : Sp' C H p cl hl cs hs) (hk : k < cs.length) : SpV (spAt C CN always f) [.ref p, .int (k : Int)] H (f cs hs k) := fun H1 e1 Q q E =>
  ⟨p, cl, hl, cs, hs, k, rfl, S.ex e1, fun k' hk' _ _ H2 e2 => by
    have : k = k' := by omega
    subst this
    exact q H2 e2, fun hn => absurd ⟨⟨by omega, by omega⟩, True.intro⟩ hn⟩
theorem ok_isnew {f fC : Addr} {fd fdC : FuncData} (F : Fun K "is_new" "Space.is_new" sNew f fd) (Guses : FnOk P w K mg base (L2.CX P w) 3 fC fdC ["self", "block"] (spAt C CN always fun cs _ k => .int (cv cs k))) (buses : Binds K fdC ["self", "block"] []) (muses : Meth K C "uses" fC) (T : Txt mg K C) : FnOk P w K mg base (L2.CX P w) 4 f fd ["self", "block"] (spAt C CN always fun cs hs k => .bl (decide (cv cs k > 0) && !hv hs k)) := by
  refine F.okX scNew (fun vs H Q E h => ?_) (fun cdv A outer s H vs Q E hr h => ?_)
  · obtain ⟨p, cl, hl, cs, hs, z, rfl, _⟩ := h
    rfl
  · obtain ⟨p, cl, hl, cs, hs, z, rfl, S, q, qE⟩ := h
    obtain ⟨dx, ho⟩ := S.o
    refine ⟨_, (pss_one (ps_ret (pe_and (pe_cmpR op_gt (pe_meth (pv 0) T.cl muses Guses (hr.mono (by decide)) buses .nil (pass_own (takes_of rfl rfl rfl rfl)) (pa_cons (pv 1) pa_nil)) pe_int (nomark _)) (pe_one (pe_not (pe_ix ix_list (pe_fld (pv 0) rfl) (pv 1) (fun _ _ => rfl))))))), ?_⟩
    by_cases hz : In cs z
    · obtain ⟨k, rfl, hlt⟩ := nat_of hz
      exact s_ret (ev_andV (ev_op (ev_meth (ev_var rfl) ho (fl_no _ _ _ ⟨by decide +kernel, by decide +kernel, by decide +kernel⟩) (ea_cons (ev_var rfl) ea_nil) (sv_uses (CN := CN) (f := fun cs _ k => .int (cv cs k)) S hlt)) ev_c rv_I0) (fun _ => ev_notV (ev_op (ev_fld (ev_var rfl) ho T.cl T.nH (fl_h _ _ _)) (ev_var rfl) (rv_ixL (sq_of S.h) (atI_nat (hv_at (by rw [← S.len]; exact hlt))))))) fun H1 e1 => q k rfl hlt True.intro H1 e1
    · refine ⟨.ref p, rfl, p, dx, _, rfl, ho, fl_no _ _ _ ⟨by decide +kernel, by decide +kernel, by decide +kernel⟩, .int z, rfl, p, cl, hl, cs, hs, z, rfl, S, fun k hk hlt => absurd ⟨by omega, by omega⟩ hz, fun hn H2 e2 => qE hn H2 e2⟩
theorem ok_isfree {f fC : Addr} {fd fdC : FuncData} (F : Fun K "is_free" "Space.is_free" sFree f fd) (Guses : FnOk P w K mg base (L2.CX P w) 3 fC fdC ["self", "block"] (spAt C CN always fun cs _ k => .int (cv cs k))) (buses : Binds K fdC ["self", "block"] []) (muses : Meth K C "uses" fC) (T : Txt mg K C) : FnOk P w K mg base (L2.CX P w) 4 f fd ["self", "block"] (spAt C CN always fun cs hs k => .bl (decide (V.int (cv cs k) = V.int 0) && !hv hs k)) := by
  refine F.okX scFree (fun vs H Q E h => ?_) (fun cdv A outer s H vs Q E hr h => ?_)
  · obtain ⟨p, cl, hl, cs, hs, z, rfl, _⟩ := h
    rfl
  · obtain ⟨p, cl, hl, cs, hs, z, rfl, S, q, qE⟩ := h
    obtain ⟨dx, ho⟩ := S.o
    refine ⟨_, (pss_one (ps_ret (pe_and (pe_cmpR op_eq (pe_meth (pv 0) T.cl muses Guses (hr.mono (by decide)) buses .nil (pass_own (takes_of rfl rfl rfl rfl)) (pa_cons (pv 1) pa_nil)) pe_int (nomark _)) (pe_one (pe_not (pe_ix ix_list (pe_fld (pv 0) rfl) (pv 1) (fun _ _ => rfl))))))), ?_⟩
    by_cases hz : In cs z
    · obtain ⟨k, rfl, hlt⟩ := nat_of hz
      exact s_ret (ev_andV (ev_op (ev_meth (ev_var rfl) ho (fl_no _ _ _ ⟨by decide +kernel, by decide +kernel, by decide +kernel⟩) (ea_cons (ev_var rfl) ea_nil) (sv_uses (CN := CN) (f := fun cs _ k => .int (cv cs k)) S hlt)) ev_c (rv_eq rfl)) (fun _ => ev_notV (ev_op (ev_fld (ev_var rfl) ho T.cl T.nH (fl_h _ _ _)) (ev_var rfl) (rv_ixL (sq_of S.h) (atI_nat (hv_at (by rw [← S.len]; exact hlt))))))) fun H1 e1 => q k rfl hlt True.intro H1 e1
    · refine ⟨.ref p, rfl, p, dx, _, rfl, ho, fl_no _ _ _ ⟨by decide +kernel, by decide +kernel, by decide +kernel⟩, .int z, rfl, p, cl, hl, cs, hs, z, rfl, S, fun k hk hlt => absurd ⟨by omega, by omega⟩ hz, fun hn H2 e2 => qE hn H2 e2⟩
end
end NS

set_option Elab.async false
set_option linter.all false
set_option maxRecDepth 100000
set_option maxHeartbeats 4000000
namespace NS
open PySem PySem.Spec PyProof.Rows L2 Evl LK LT LG LS LQ LX LO
theorem given_length (n : Nat) (f : Nat → Bool) (v : Nat → V) : (given n f v).length = ((List.range n).filter f).length := by
  unfold given
  rw [List.length_map]
theorem given_map (n : Nat) (v : Nat → V) : given n (fun _ => true) v = (List.range n).map v := by
  unfold given
  rw [List.filter_eq_self.mpr fun _ _ => rfl]
def pos (cs : List Int) : List Bool := cs.map fun c => decide (c > 0)
theorem pos_map (cs : List Int) : given (cs.map V.int).length (fun _ => true) (fun i => .bl (decide (cv cs i > 0))) = (pos cs).map V.bl := by
  rw [given_map, List.length_map]
  unfold pos
  rw [List.map_map]
  apply List.ext_getElem
  · simp
  · intro i h1 h2
    simp only [List.length_map, List.length_range] at h1
    simp [cv, List.getD_eq_getElem?_getD, List.getElem?_eq_getElem h1]
theorem not_dec (b : Bool) : (!b) = decide (V.bl b = V.bl false) := by
  cases b
  · rw [decide_eq_true rfl]; rfl
  · rw [decide_eq_false (by intro h; cases h)]; rfl
theorem map_set (cs : List Int) (k : Nat) (x : Int) : (cs.map V.int).set k (.int x) = (cs.set k x).map V.int := (List.map_set).symm
def spCu (C : Addr) (b? : Bool → Prop) : Sp := fun vs H Q _ => ∃ p cl hl cs hs b, vs = [.ref p, .bl b] ∧ Sp' C H p cl hl cs hs ∧ RetV (.int ((fr cs hs b).length : Nat)) H Q
def spSelf (C : Addr) (f : List Int → List Bool → V) : Sp := fun vs H Q _ => ∃ p cl hl cs hs, vs = [.ref p] ∧ Sp' C H p cl hl cs hs ∧ RetV (f cs hs) H Q
def spTake (C N : Addr) : Sp := fun vs H Q E => ∃ p cl hl cs hs r, vs = [.ref p, .int r] ∧ Sp' C H p cl hl cs hs ∧ 0 ≤ r ∧ (((fr cs hs false).length : Int) ≤ r → ∀ H', Ex H H' → E (.ref N) none H') ∧
  (r < ((fr cs hs false).length : Int) → ∀ (k : Nat) H1 H2, headV (fr cs hs false) = .int (k : Int) → k < cs.length → Ex H H1 → Ex (upd H1 cl (.lst ((cs.set k 1).map V.int))) H2 → Q (.int (k : Int)) H2)
def spChg (C N : Addr) (d : Int) (f : List Int → Nat → V) : Sp := fun vs H Q E => ∃ p cl hl cs hs z, vs = [.ref p, .int z] ∧ Sp' C H p cl hl cs hs ∧ (∀ k : Nat, z = (k : Int) → k < cs.length → used cs z → ∀ H1 H2, Ex H H1 → Ex (upd H1 cl (.lst ((cs.set k (cv cs k + d)).map V.int))) H2 → Q (f cs k) H2) ∧ (¬ (In cs z ∧ used cs z) → ∀ H', Ex H H' → E (.ref N) none H')
def spSettle (C : Addr) : Sp := fun vs H Q _ => ∃ p cl hl cs hs dx, vs = [.ref p] ∧ Sp' C H p cl hl cs hs ∧ H p = some (.ins C dx (flds cs.length cl hl)) ∧ ∀ l H1, H l = none → Ex H H1 → H1 l = some (.lst ((pos cs).map V.bl)) → Q .non (upd H1 p (.ins C dx (flds cs.length cl l)))
def spSaved (C : Addr) : Sp := fun vs H Q _ => ∃ p cl hl cs hs, vs = [.ref p] ∧ Sp' C H p cl hl cs hs ∧ ∀ t ct ht H1, H t = none → H ct = none → H ht = none → Ex H H1 → H1 t = some (.tup [.ref ct, .ref ht]) → H1 ct = some (.tup (cs.map V.int)) → H1 ht = some (.tup (hs.map V.bl)) → Q (.ref t) H1
def spRest (K : PySem.W.Frag) (C : Addr) : Sp := fun vs H Q _ => ∃ p t ct ht cl hl cs hs cs' hs', vs = [.ref p, .ref t] ∧ Sp' C H p cl hl cs hs ∧ SqT K H t [.ref ct, .ref ht] ∧ SqT K H ct (cs'.map V.int) ∧ SqT K H ht (hs'.map V.bl) ∧ cs'.length = cs.length ∧ hs'.length = cs.length ∧
  ∀ cl' hl' H1, Fr (fun a => a = p) H H1 → H cl' = none → H hl' = none → cl' ≠ hl' → Sp' C H1 p cl' hl' cs' hs' → Q .non H1
def spInit (K : PySem.W.Frag) (C : Addr) : Sp := fun vs H Q _ => ∃ p u dx cs, vs = [.ref p, .ref u] ∧ H p = some (.ins C dx []) ∧ SqL K H u (cs.map V.int) ∧ cs.length ≤ 256 ∧ ∀ cl hl H1, Fr (fun a => a = p) H H1 → H cl = none → H hl = none → cl ≠ hl → Sp' C H1 p cl hl cs (pos cs) → Q .non H1
section
variable {P : Program} {w : World} {K : PySem.W.Frag} {mg : Str → Option Value} {base : Heap} {C CN CS : Addr}
theorem ok_cu {f : Addr} {fd : FuncData} (F : Fun K "_count_unused" "Space._count_unused" sCu f fd) (T : Txt mg K C) : FnOk P w K mg base CX0 1 f fd ["self", "held"] (spCu C fun _ => True) := by
  refine F.ok scCu (fun vs H Q E h => ?_) (fun cdv A outer s H vs Q E hr h => ?_)
  · obtain ⟨p, cl, hl, cs, hs, b, rfl, _⟩ := h
    rfl
  · obtain ⟨p, cl, hl, cs, hs, b, rfl, S, q⟩ := h
    obtain ⟨dx, ho⟩ := S.o
    refine ⟨_, (pss_one (ps_ret (pe_callB call_len_seq (by rfl) T.len (by decide +kernel) (pa_cons (pe_lc (own := [("count", 2), ("now_held", 3)]) (g := gTup K 2 (gCons (gName 2) (gCons (gName 3) gNil))) rfl scCu.nd (pi_zip (by rfl) T.zip (pa_cons (pe_fld (pv 0) rfl) (pa_cons (pe_fld (pv 0) rfl) pa_nil))) (blkOk_by (own := [("count", 2), ("now_held", 3)]) (N := ["self", "held", "count", "now_held"]) (sc := defScope sCu) (by decide +kernel)) (fun _ _ _ _ _ => pg_tup rfl (pgs_cons (pg_name (i := 2) scCu.nd rfl (Or.inl rfl)) (pgs_cons (pg_name (i := 3) scCu.nd rfl (Or.inl rfl)) pgs_nil))) (fun _ _ _ _ _ => (pts_one (PW.pt (pw_and (pt_cmpR op_eq (pv 2) pe_int (nomark _)) (pw_and1 (pt_cmpR op_eq (pv 3) (pv 1) (nomark _))))))) (fun _ _ _ _ _ => (pv 2))) pa_nil)))), ?_⟩
    refine s_ret (ev_is (ev_lenN (el_lcZ (fr1 cs hs b) (fun i => .int (cv cs i)) (ea_cons (ev_fld (ev_var rfl) ho T.cl T.nC (fl_c _ _ _)) (ea_cons (ev_fld (ev_var rfl) ho T.cl T.nH (fl_h _ _ _)) ea_nil)) (sq_of S.c) (sq_of S.h) (by rw [List.length_map, List.length_map]; exact S.len) (by rw [List.length_map]; have := S.le; omega) (fun _ _ => rfl)
      (fun n x y H1 e1 hx hy => ?_) (fun n x y H1 e1 hx hy _ => ?_))) (show _ = V.int ((fr cs hs b).length : Nat) by rw [given_length, List.length_map]; rfl)) fun H1 e1 => q H1 e1
    · have hn : n < cs.length := by
        have := (List.getElem?_eq_some_iff.mp hx).1
        rwa [List.length_map] at this
      rw [cv_at hn] at hx
      cases hx
      rw [hv_at (by rw [← S.len]; exact hn)] at hy
      cases hy
      exact et_and (et_test (ev_op (ev_var rfl) ev_c (rv_eq rfl))) (fun _ => et_test (ev_op (ev_var rfl) (ev_var rfl) (rv_eq rfl)))
    · have hn : n < cs.length := by
        have := (List.getElem?_eq_some_iff.mp hx).1
        rwa [List.length_map] at this
      rw [cv_at hn] at hx
      cases hx
      exact ev_var rfl
theorem ok_free {f fC : Addr} {fd fdC : FuncData} (F : Fun K "free" "Space.free" sFr f fd) (Gcount_unused : FnOk P w K mg base CX0 1 fC fdC ["self", "held"] (spCu C fun _ => True)) (bcount_unused : Binds K fdC ["self", "held"] []) (mcount_unused : Meth K C "_count_unused" fC) (T : Txt mg K C) : FnOk P w K mg base CX0 2 f fd ["self"] (spSelf C fun cs hs => .int ((fr cs hs false).length : Nat)) := by
  refine F.ok scFr (fun vs H Q E h => ?_) (fun cdv A outer s H vs Q E hr h => ?_)
  · obtain ⟨p, cl, hl, cs, hs, rfl, _⟩ := h
    rfl
  · obtain ⟨p, cl, hl, cs, hs, rfl, S, q⟩ := h
    obtain ⟨dx, ho⟩ := S.o
    refine ⟨_, (pss_one (ps_ret (pe_meth (pv 0) T.cl mcount_unused Gcount_unused (hr.mono (by decide)) bcount_unused .nil pass0 (pa_cons pe_bl pa_nil)))), ?_⟩
    exact r_m (ev_var rfl) ho (fl_no _ _ _ ⟨by decide +kernel, by decide +kernel, by decide +kernel⟩) (ea_cons ev_c ea_nil) fun H1 e1 => ⟨p, cl, hl, cs, hs, false, rfl, S.ex e1, fun H2 e2 => q H2 (e1.trans e2)⟩
theorem sv_self {H : Hp} {p cl hl : Addr} {cs : List Int} {hs : List Bool} {f : List Int → List Bool → V} (S : Sp' C H p cl hl cs hs) : SpV (spSelf C f) [.ref p] H (f cs hs) := fun H1 e1 Q q E => ⟨p, cl, hl, cs, hs, rfl, S.ex e1, q⟩
theorem ok_least {f fC : Addr} {fd fdC : FuncData} (F : Fun K "least_free" "Space.least_free" sLeast f fd) (Gis_free : FnOk P w K mg base (L2.CX P w) 4 fC fdC ["self", "block"] (spAt C CN always fun cs hs k => .bl (decide (V.int (cv cs k) = V.int 0) && !hv hs k))) (bis_free : Binds K fdC ["self", "block"] []) (mis_free : Meth K C "is_free" fC) (T : Txt mg K C) : FnOk P w K mg base CX0 5 f fd ["self"] (spSelf C fun cs hs => headV (fr cs hs false)) := by
  refine F.ok scLeast (fun vs H Q E h => ?_) (fun cdv A outer s H vs Q E hr h => ?_)
  · obtain ⟨p, cl, hl, cs, hs, rfl, _⟩ := h
    rfl
  · obtain ⟨p, cl, hl, cs, hs, rfl, S, q⟩ := h
    obtain ⟨dx, ho⟩ := S.o
    replace q : RetV (headV (fr cs hs false)) H Q := q
    refine ⟨_, (pss_cons (ps_for PassesOwn.never rfl (pi_range1 (by rfl) T.range (pa_cons (pe_fld (pv 0) rfl) pa_nil)) (pg_name (i := 1) scLeast.nd rfl (Or.inl rfl)) (pss_one (ps_if (pt_val (pe_meth (pv 0) T.cl mis_free Gis_free (hr.mono (by decide)) bis_free .nil passL (pa_cons (pv 1) pa_nil))) (pss_one (ps_ret (pv 1))) pss_nil)))
      (pss_one (ps_ret pe_non))), ?_⟩
    have hle := S.le
    refine q_forR1 (n := (cs.length : Int)) (ea_cons (ev_fld (ev_var rfl) ho T.cl T.nB (fl_b _ _ _)) ea_nil) ⟨by omega, by omega⟩ (fun i σ' H' => ∃ y, σ' = [some (.ref p), y] ∧ Ex H H' ∧ ∀ j, j < i → fr1 cs hs false j = false) (fun H1 e1 => ⟨none, rfl, e1, fun j hj => absurd hj (by omega)⟩) ?_ ?_
    · rintro i σ' H' hi ⟨y, rfl, e0, hn⟩
      have hi' : i < cs.length := by omega
      have eb : (decide (V.int (cv cs i) = V.int 0) && !hv hs i) = fr1 cs hs false i := by
        unfold fr1
        rw [not_dec]
      have S0 := S.ex e0
      refine s_when (et_is (et_B (ev_meth (z := .bl (decide (V.int (cv cs i) = V.int 0) && !hv hs i)) (ev_var rfl) (e0 _ _ ho) (fl_no _ _ _ ⟨by decide +kernel, by decide +kernel, by decide +kernel⟩) (ea_cons (ev_var rfl) ea_nil) (sv_uses (CN := CN) (f := fun cs hs k => .bl (decide (V.int (cv cs k) = V.int 0) && !hv hs k)) S0 hi'))) eb) (fun hb H1 e1 => ?_) (fun hb H1 e1 => ⟨_, rfl, e0.trans e1, fun j hj => ?_⟩)
      · rw [head_some hi' hb hn] at q
        exact s_ret (ev_var rfl) fun H2 e2 => q H2 ((e0.trans e1).trans e2)
      · by_cases hji : j = i
        · rw [hji]
          exact hb
        · exact hn j (by omega)
    · rintro σ' H' ⟨y, rfl, e0, hn⟩
      rw [head_none fun j hj => hn j (by simpa using hj)] at q
      exact s_ret ev_c fun H2 e2 => q H2 (e0.trans e2)
theorem ok_take {f fF fL : Addr} {fd fdF fdL : FuncData} (F : Fun K "take" "Space.take" sTake f fd) (Gfree : FnOk P w K mg base CX0 2 fF fdF ["self"] (spSelf C fun cs hs => .int ((fr cs hs false).length : Nat))) (bfree : Binds K fdF ["self"] []) (mfree : Meth K C "free" fF) (Gleast_free : FnOk P w K mg base CX0 5 fL fdL ["self"] (spSelf C fun cs hs => headV (fr cs hs false))) (bleast_free : Binds K fdL ["self"] []) (mleast_free : Meth K C "least_free" fL) (T : Txt mg K C) (XS : Xc K mg "NoSpace" CS) : FnOk P w K mg base (L2.CX P w) 6 f fd ["self", "reserve"] (spTake C CS) := by
  refine F.okX scTake (fun vs H Q E h => ?_) (fun cdv A outer s H vs Q E hr h => ?_)
  · obtain ⟨p, cl, hl, cs, hs, r, rfl, _⟩ := h
    rfl
  · obtain ⟨p, cl, hl, cs, hs, r, rfl, S, hr0, qE, q⟩ := h
    obtain ⟨dx, ho⟩ := S.o
    refine ⟨_, (pss_cons (ps_if (pt_cmpR op_le (pe_meth0 (pv 0) T.cl mfree Gfree (hr.mono (by decide)) bfree .nil pass0) (pv 1) (nomark _)) (pss_one (ps_raise0 rfl XS (takes_of rfl rfl rfl rfl) (by rfl))) pss_nil)
      (pss_cons (ps_set (i := 2) scTake.nd rfl (Or.inl rfl) (pe_meth0 (pv 0) T.cl mleast_free Gleast_free (hr.mono (by decide)) bleast_free .nil pass0))
      (pss_cons (ps_asg pe_int (pg_sub (pe_fld (pv 0) rfl) (pv 2) set_list))
      (pss_one (ps_ret (pv 2)))))), ?_⟩
    refine q_when (et_test (ev_op (ev_meth0 (ev_var rfl) ho (fl_no _ _ _ ⟨by decide +kernel, by decide +kernel, by decide +kernel⟩) (sv_self (f := fun cs hs => .int ((fr cs hs false).length : Nat)) S)) (ev_var rfl) rv_I0)) (fun hb H1 e1 => qE (of_decide_eq_true hb) H1 e1) (fun hb H1 e1 => ?_)
    have hlt : r < ((fr cs hs false).length : Int) := by
      have := of_decide_eq_false hb
      omega
    obtain ⟨k, hk, hkl, _⟩ := head_of (cs := cs) (hs := hs) (b := false) (by omega)
    have S1 := S.ex e1
    refine q_asg (ev_is (ev_meth0 (ev_var rfl) (e1 _ _ ho) (fl_no _ _ _ ⟨by decide +kernel, by decide +kernel, by decide +kernel⟩) (sv_self (f := fun cs hs => headV (fr cs hs false)) S1)) hk) fun H2 e2 => ?_
    have S2 := S1.ex e2
    refine q_setL (j := k) S2.c ev_c (ev_fld (ev_var rfl) (e2 _ _ (e1 _ _ ho)) T.cl T.nC (fl_c _ _ _)) (ev_var rfl) (by rw [List.length_map]; exact hkl) fun H3 e3 => ?_
    rw [map_set]
    exact s_ret (ev_var rfl) fun H4 e4 => q hlt k H3 H4 hk hkl ((e1.trans e2).trans e3) e4
theorem ok_share {f fC : Addr} {fd fdC : FuncData} (F : Fun K "share" "Space.share" sShare f fd) (Gcheck_used : FnOk P w K mg base (L2.CX P w) 3 fC fdC ["self", "block"] (spAt C CN used fun _ _ _ => .non)) (bcheck_used : Binds K fdC ["self", "block"] []) (mcheck_used : Meth K C "_check_used" fC) (T : Txt mg K C) : FnOk P w K mg base (L2.CX P w) 4 f fd ["self", "block"] (spChg C CN 1 fun _ _ => .non) := by
  refine F.okX scShare (fun vs H Q E h => ?_) (fun cdv A outer s H vs Q E hr h => ?_)
  · obtain ⟨p, cl, hl, cs, hs, z, rfl, _⟩ := h
    rfl
  · obtain ⟨p, cl, hl, cs, hs, z, rfl, S, q, qE⟩ := h
    obtain ⟨dx, ho⟩ := S.o
    refine ⟨_, (pss_cons (ps_expr (pe_meth (pv 0) T.cl mcheck_used Gcheck_used (hr.mono (by decide)) bcheck_used .nil (pass_own (takes_of rfl rfl rfl rfl)) (pa_cons (pv 1) pa_nil)))
      (pss_one (ps_augS (pe_fld (pv 0) rfl) (pv 1) get_list pe_int ip_add set_list))), ?_⟩
    refine q_m (ev_var rfl) ho (fl_no _ _ _ ⟨by decide +kernel, by decide +kernel, by decide +kernel⟩) (ea_cons (ev_var rfl) ea_nil) fun H1 e1 => ⟨p, cl, hl, cs, hs, z, rfl, S.ex e1, fun k hk hlt hu H2 e2 => ?_, fun hn H2 e2 => qE hn H2 (e1.trans e2)⟩
    subst hk
    have S2 := S.ex (e1.trans e2)
    obtain ⟨dx2, ho2⟩ := S2.o
    refine s_augL (ev_fld (ev_var rfl) ho2 T.cl T.nC (fl_c _ _ _)) (ev_var rfl) S2.c (cv_at hlt) ev_c fun H3 e3 => ?_
    rw [map_set]
    exact q k rfl hlt hu H3 _ ((e1.trans e2).trans e3) (Ex.refl _)
theorem ok_drop {f fC : Addr} {fd fdC : FuncData} (F : Fun K "drop" "Space.drop" sDrop f fd) (Gcheck_used : FnOk P w K mg base (L2.CX P w) 3 fC fdC ["self", "block"] (spAt C CN used fun _ _ _ => .non)) (bcheck_used : Binds K fdC ["self", "block"] []) (mcheck_used : Meth K C "_check_used" fC) (T : Txt mg K C) : FnOk P w K mg base (L2.CX P w) 4 f fd ["self", "block"] (spChg C CN (-1) fun cs k => .int (cv cs k - 1)) := by
  refine F.okX scDrop (fun vs H Q E h => ?_) (fun cdv A outer s H vs Q E hr h => ?_)
  · obtain ⟨p, cl, hl, cs, hs, z, rfl, _⟩ := h
    rfl
  · obtain ⟨p, cl, hl, cs, hs, z, rfl, S, q, qE⟩ := h
    obtain ⟨dx, ho⟩ := S.o
    refine ⟨_, (pss_cons (ps_expr (pe_meth (pv 0) T.cl mcheck_used Gcheck_used (hr.mono (by decide)) bcheck_used .nil (pass_own (takes_of rfl rfl rfl rfl)) (pa_cons (pv 1) pa_nil)))
      (pss_cons (ps_augS (pe_fld (pv 0) rfl) (pv 1) get_list pe_int ip_sub set_list)
      (pss_one (ps_ret (pe_ix ix_list (pe_fld (pv 0) rfl) (pv 1) (fun _ _ => rfl)))))), ?_⟩
    refine q_m (ev_var rfl) ho (fl_no _ _ _ ⟨by decide +kernel, by decide +kernel, by decide +kernel⟩) (ea_cons (ev_var rfl) ea_nil) fun H1 e1 => ⟨p, cl, hl, cs, hs, z, rfl, S.ex e1, fun k hk hlt hu H2 e2 => ?_, fun hn H2 e2 => qE hn H2 (e1.trans e2)⟩
    subst hk
    have S2 := S.ex (e1.trans e2)
    obtain ⟨dx2, ho2⟩ := S2.o
    refine q_augL (ev_fld (ev_var rfl) ho2 T.cl T.nC (fl_c _ _ _)) (ev_var rfl) S2.c (cv_at hlt) ev_c fun H3 e3 => ?_
    rw [map_set]
    have hpc : p ≠ cl := fun e => by
      have h1 := S2.c
      rw [← e, ho2] at h1
      cases h1
    have ho3 : (upd H3 cl (.lst ((cs.set k (cv cs k - 1)).map V.int))) p = some (.ins C dx2 (flds cs.length cl hl)) := by
      rw [upd_ne hpc]
      exact e3 _ _ ho2
    refine s_ret (ev_op (ev_fld (ev_var rfl) ho3 T.cl T.nC (fl_c _ _ _)) (ev_var rfl) (rv_ixL (v := .int (cv cs k - 1)) (sq_of upd_same) (atI_nat (by rw [List.getElem?_map, List.getElem?_set_self hlt]; rfl)))) fun H4 e4 => q k rfl hlt hu H3 H4 ((e1.trans e2).trans e3) e4
theorem el_pos {H : Hp} {σ : L2.St} {te : TE} {a : Addr} {j : Nat} {vs : List Nat} {cs : List Int} (h : Ev te σ H (.ref a)) (hx : SqL K H a (cs.map V.int)) (hz : cs.length ≤ 256) (hw : ∀ x, wipe ((wipe σ vs).set j (some x)) vs = wipe σ vs) (hj : j < (wipe σ vs).length) :
    EvL (tLc (iList K te) (gName j) tYes (tOp (rI0 fun i j => .bl (decide (i > j))) (tVar j) (tC (.int 0))) vs) σ H ((pos cs).map V.bl) := by
  rw [← pos_map]
  refine el_lcL (fun _ => true) (fun i => .bl (decide (cv cs i > 0))) h hx (by rw [List.length_map]; omega) hw (fun _ _ H1 _ _ => fun H2 _ Q q => q _ (Ex.refl _)) fun i x H1 e1 hi _ => ?_
  have hn : i < cs.length := by
    have := (List.getElem?_eq_some_iff.mp hi).1
    rwa [List.length_map] at this
  rw [cv_at hn] at hi
  cases hi
  exact ev_op (ev_var (by rw [List.getElem?_set_self hj])) ev_c rv_I0
theorem eu_tuple {H : Hp} {σ : L2.St} {te : TE} {a : Addr} {xs : List V} (h : Ev te σ H (.ref a)) (hx : SqL K H a xs) : EvU (tCB (fun us H Q => ∃ p ys, us = [.ref p] ∧ ((SqL K H p ys ∧ ∀ l, H l = none → Q (.ref l) (upd H l (.tup ys))) ∨ (SqT K H p ys ∧ Q (.ref p) H))) (tCons te tNil)) σ H xs := fun H1 e Q q =>
  h H1 e _ fun H2 e2 => ⟨a, xs, rfl, .inl ⟨ex_l (e.trans e2) hx, fun l hl => q l _ (fresh_back e2 hl) (e2.trans (Ex.new hl)) upd_same⟩⟩
theorem r_pair {σ : L2.St} {H : Hp} {te tf : TE} {xs ys : List V} {D : Ends} (h1 : EvU te σ H xs) (h2 : EvU tf σ H ys) (q : ∀ t ct ht H1, H t = none → H ct = none → H ht = none → Ex H H1 → H1 t = some (.tup [.ref ct, .ref ht]) → H1 ct = some (.tup xs) → H1 ht = some (.tup ys) → D.rt (.ref t) H1) : tRet (tTup (tCons te (tCons tf tNil))) D σ H :=
  h1 H (Ex.refl _) _ fun ct H1 hct e1 g1 => h2 H1 e1 _ fun ht H2 hht e2 g2 => ⟨by show 2 ≤ sizeLine; decide, fun t ht' => q t ct ht _ (fresh_back (e1.trans e2) ht') hct (fresh_back e1 hht) ((e1.trans e2).trans (Ex.new ht')) upd_same ((Ex.new ht') _ _ (e2 _ _ g1)) ((Ex.new ht') _ _ g2)⟩
theorem ok_init {f : Addr} {fd : FuncData} (F : Fun K "__init__" "Space.__init__" sInit f fd) (T : Txt mg K C) : FnOk P w K mg base CX0 1 f fd ["self", "uses"] (spInit K C) := by
  refine F.ok scInit (fun vs H Q E h => ?_) (fun cdv A outer s H vs Q E hr h => ?_)
  · obtain ⟨p, u, dx, cs, rfl, _⟩ := h
    rfl
  · obtain ⟨p, u, dx, cs, rfl, ho, hU, hle, q⟩ := h
    refine ⟨_, (pss_cons (ps_fld (pv 0) (pe_callB call_len_seq (by rfl) T.len (by decide +kernel) (pa_cons (pv 1) pa_nil)) rfl)
      (pss_cons (ps_fld (pv 0) (pe_callTy call_list_of (by rfl) T.list (by decide +kernel) (pa_cons (pv 1) pa_nil)) rfl)
      (pss_one (ps_fld (pv 0) (pe_lc (own := [("count", 2)]) (g := gName 2) (tt := tYes) rfl scInit.nd (pi_list (pv 1)) (blkOk_by (own := [("count", 2)]) (N := ["self", "uses", "count"]) (sc := defScope sInit) (by decide +kernel)) (fun _ _ _ _ _ => pg_name (i := 2) scInit.nd rfl (Or.inl rfl)) (fun _ _ _ _ _ => pts_nil) (fun _ _ _ _ _ => (pe_cmpR op_gt (pv 2) pe_int (nomark _)))) rfl)))), ?_⟩
    refine q_fld (ev_is (ev_len (ev_var rfl) hU) (by rw [List.length_map])) (ev_var rfl) ho T.cl T.nB (by show 0 < 1000; decide) fun H1 e1 => ?_
    rw [fl_0]
    have u1 := mut_l (fs' := [(("blocks" : Str), V.int cs.length)]) e1 ho hU
    refine q_fldL (el_list (ev_var rfl) u1) (ev_var rfl) upd_same T.cl T.nC (by show 1 < 1000; decide) fun c1 H2 hc1 e2 h2 => ?_
    rw [fl_1]
    have u2 := mut_l (fs' := [(("blocks" : Str), V.int cs.length), (("_counts" : Str), V.ref c1)]) e2 upd_same u1
    refine s_fldL (el_pos (ev_var rfl) u2 hle (fun _ => rfl) (by show 2 < 3; decide)) (ev_var rfl) upd_same T.cl T.nH (by show 2 < 1000; decide) fun h1' H3 hh1 e3 h3 => ?_
    rw [fl_2]
    have nc : c1 ≠ p := fun e => by
      rw [e, upd_same] at hc1
      cases hc1
    have nh : h1' ≠ p := fun e => by
      rw [e, upd_same] at hh1
      cases hh1
    have c3 : H3 c1 = some (.lst (cs.map V.int)) := e3 _ _ (by rw [upd_ne nc]; exact h2)
    refine q c1 h1' _ (fun a o ha hn => ?_) ?_ ?_ (fun e => ?_) ⟨by unfold pos; rw [List.length_map], hle, ⟨dx, upd_same⟩, by rw [upd_ne nc]; exact c3, by rw [upd_ne nh]; exact h3⟩
    · rw [upd_ne hn]
      exact e3 _ _ (by rw [upd_ne hn]; exact e2 _ _ (by rw [upd_ne hn]; exact e1 _ _ ha))
    · rw [upd_ne nc] at hc1
      exact fresh_back e1 hc1
    · rw [upd_ne nh] at hh1
      have := fresh_back e2 hh1
      rw [upd_ne nh] at this
      exact fresh_back e1 this
    · rw [← e, upd_ne nc, h2] at hh1
      cases hh1
end
end NS

set_option Elab.async false
set_option linter.all false
set_option maxRecDepth 100000
set_option maxHeartbeats 4000000
namespace NT
open PySem PySem.Spec PyProof.Rows L2 Evl LK LT LG LS LQ LX LO LN LP LH LV LZ LW StX LD
def top (i : Nat) : Stmt := PySem.Challenge.pw_laminae_k14_whole_tree_stays_balanced.main.body.getD i (.Pass ⟨0, 0, 0, 0⟩)
abbrev sRb : Stmt := top 18
theorem scRb : FnScope ["disk", "number", "words", "at"] ["disk", "number"] (defScope sRb) := ⟨rfl, rfl, rfl, by decide +kernel, rfl, by decide +kernel, by decide +kernel⟩
abbrev sHin : Stmt := inClass (top 22) 0
theorem scHin : FnScope ["self", "generation", "table", "blocks"] ["self", "generation", "table", "blocks"] (defScope sHin) := ⟨rfl, rfl, rfl, by decide +kernel, rfl, by decide +kernel, by decide +kernel⟩
abbrev sInit : Stmt := inClass (top 71) 0
theorem scInit : FnScope ["self", "disk", "head", "space"] ["self", "disk", "head", "space"] (defScope sInit) := ⟨rfl, rfl, rfl, by decide +kernel, rfl, by decide +kernel, by decide +kernel⟩
abbrev sUr : Stmt := inClass (top 71) 2
theorem scUr : FnScope ["self", "reserve"] ["self", "reserve"] (defScope sUr) := ⟨rfl, rfl, rfl, by decide +kernel, rfl, by decide +kernel, by decide +kernel⟩
abbrev sGen : Stmt := inClass (top 71) 4
theorem scGen : FnScope ["self"] ["self"] (defScope sGen) := ⟨rfl, rfl, rfl, by decide +kernel, rfl, by decide +kernel, by decide +kernel⟩
abbrev sRead : Stmt := inClass (top 71) 5
theorem scRead : FnScope ["self", "pointer", "number"] ["self", "pointer"] (defScope sRead) := ⟨rfl, rfl, rfl, by decide +kernel, rfl, by decide +kernel, by decide +kernel⟩
abbrev sNp : Stmt := inClass (top 71) 6
theorem scNp : FnScope ["self"] ["self"] (defScope sNp) := ⟨rfl, rfl, rfl, by decide +kernel, rfl, by decide +kernel, by decide +kernel⟩
abbrev sMake : Stmt := inClass (top 71) 7
theorem scMake : FnScope ["self", "words", "number"] ["self", "words"] (defScope sMake) := ⟨rfl, rfl, rfl, by decide +kernel, rfl, by decide +kernel, by decide +kernel⟩
abbrev sNew : Stmt := inClass (top 71) 8
theorem scNew : FnScope ["self", "pointer", "number"] ["self", "pointer"] (defScope sNew) := ⟨rfl, rfl, rfl, by decide +kernel, rfl, by decide +kernel, by decide +kernel⟩
abbrev sWrite : Stmt := inClass (top 71) 9
theorem scWrite : FnScope ["self", "pointer", "words"] ["self", "pointer", "words"] (defScope sWrite) := ⟨rfl, rfl, rfl, by decide +kernel, rfl, by decide +kernel, by decide +kernel⟩
abbrev sShare : Stmt := inClass (top 71) 10
theorem scShare : FnScope ["self", "pointer"] ["self", "pointer"] (defScope sShare) := ⟨rfl, rfl, rfl, by decide +kernel, rfl, by decide +kernel, by decide +kernel⟩
abbrev sDrop : Stmt := inClass (top 71) 11
theorem scDrop : FnScope ["self", "pointer", "number", "left"] ["self", "pointer"] (defScope sDrop) := ⟨rfl, rfl, rfl, by decide +kernel, rfl, by decide +kernel, by decide +kernel⟩
abbrev sUses : Stmt := inClass (top 71) 12
theorem scUses : FnScope ["self", "pointer"] ["self", "pointer"] (defScope sUses) := ⟨rfl, rfl, rfl, by decide +kernel, rfl, by decide +kernel, by decide +kernel⟩
abbrev sReq : Stmt := inClass (top 71) 13
theorem scReq : FnScope ["self", "many"] ["self", "many"] (defScope sReq) := ⟨rfl, rfl, rfl, by decide +kernel, rfl, by decide +kernel, by decide +kernel⟩
abbrev sFree : Stmt := inClass (top 71) 14
theorem scFree : FnScope ["self"] ["self"] (defScope sFree) := ⟨rfl, rfl, rfl, by decide +kernel, rfl, by decide +kernel, by decide +kernel⟩
abbrev sNb : Stmt := inClass (top 71) 15
theorem scNb : FnScope ["self"] ["self"] (defScope sNb) := ⟨rfl, rfl, rfl, by decide +kernel, rfl, by decide +kernel, by decide +kernel⟩
/-! ### a store: its fields, its dict of new blocks, its disk and space -/
open ND (DK Dk St)
open NS (fr cv hv headV used In flds)
structure Txt (mg : Str → Option Value) : Prop where
  len : mg "len" = none
  range : mg "range" = none
  list : mg "list" = none
  tuple : mg "tuple" = none
  sorted : mg "sorted" = none
  isinstance : mg "isinstance" = none
  abs : mg "abs" = none
  int : mg "int" = none
  bool : mg "bool" = none
  min : mg "min" = none
  max : mg "max" = none
  gBLOCK_WORDS : ∃ t, mg "BLOCK_WORDS" = some (.int 32 t)
  gBLOCK_SECTORS : ∃ t, mg "BLOCK_SECTORS" = some (.int 4 t)
  gFIRST_BLOCK : ∃ t, mg "FIRST_BLOCK" = some (.int 5 t)
  gADD : ∃ t, mg "ADD" = some (.int 60 t)
structure TxT (mg : Str → Option Value) (K : PySem.W.Frag) (C : Addr) : Prop where
  cl : Cls K C
  nd : NoAttr K C "disk"
  nh : NoAttr K C "head"
  ns : NoAttr K C "space"
  nt : NoAttr K C "table"
  nr : NoAttr K C "reserve"
  nm : NoAttr K C "_memory"
  mgC : mg "Store" = some (.ref C)
structure TxH (mg : Str → Option Value) (K : PySem.W.Frag) (C : Addr) : Prop where
  cl : Cls K C
  ng : NoAttr K C "generation"
  nt : NoAttr K C "table"
  nb : NoAttr K C "blocks"
  mgC : mg "Head" = some (.ref C)
def hfl (g : Int) (tb : Addr) (n : Int) : List (Str × V) := [(("generation" : Str), .int g), (("table" : Str), .ref tb), (("blocks" : Str), .int n)]
def sfl (dp hp sp tb : Addr) (r : Int) (m : Addr) : List (Str × V) := [(("disk" : Str), .ref dp), (("head" : Str), .ref hp), (("space" : Str), .ref sp), (("table" : Str), .ref tb), (("reserve" : Str), .int r), (("_memory" : Str), .ref m)]
section
variable {dp hp sp tb m : Addr} {r r' : Int}
theorem t_d : (sfl dp hp sp tb r m).lookup ("disk" : Str) = some (V.ref dp) := rfl
theorem t_h : (sfl dp hp sp tb r m).lookup ("head" : Str) = some (V.ref hp) := rfl
theorem t_s : (sfl dp hp sp tb r m).lookup ("space" : Str) = some (V.ref sp) := rfl
theorem t_t : (sfl dp hp sp tb r m).lookup ("table" : Str) = some (V.ref tb) := rfl
theorem t_r : (sfl dp hp sp tb r m).lookup ("reserve" : Str) = some (V.int r) := rfl
theorem t_m : (sfl dp hp sp tb r m).lookup ("_memory" : Str) = some (V.ref m) := rfl
theorem t_pr : putF "reserve" (V.int r') (sfl dp hp sp tb r m) = sfl dp hp sp tb r' m := rfl
theorem t_no {x : Str} (h : x ≠ "disk" ∧ x ≠ "head" ∧ x ≠ "space" ∧ x ≠ "table" ∧ x ≠ "reserve" ∧ x ≠ "_memory") : (sfl dp hp sp tb r m).lookup x = Option.none := by
  unfold sfl
  rw [List.lookup_cons, beq_false_of_ne h.1, List.lookup_cons, beq_false_of_ne h.2.1, List.lookup_cons, beq_false_of_ne h.2.2.1, List.lookup_cons, beq_false_of_ne h.2.2.2.1, List.lookup_cons, beq_false_of_ne h.2.2.2.2.1, List.lookup_cons, beq_false_of_ne h.2.2.2.2.2]
  rfl
end
/-- which new blocks the dict holds -/
structure Mem (G : Hp) (n : Nat) (kvs : List (Key × V)) (mem : Nat → Option (List Int)) : Prop where
  v : ∀ k : Nat, (mem k = none ∧ valV kvs (.inl (k : Int)) = none) ∨ ∃ ws t, mem k = some ws ∧ valV kvs (.inl (k : Int)) = some (.ref t) ∧ G t = some (.tup (ws.map V.int))
  ks : ∃ ks : List Nat, kvs.map (·.1) = ks.map (fun k : Nat => (Sum.inl (k : Int) : Key)) ∧ ks.Nodup ∧ ∀ k, k ∈ ks ↔ k < n ∧ mem k ≠ none
theorem Mem.ex {G G' : Hp} {n : Nat} {kvs : List (Key × V)} {mem : Nat → Option (List Int)} (h : Mem G n kvs mem) (e : Ex G G') : Mem G' n kvs mem := ⟨fun k => (h.v k).imp id fun ⟨ws, t, a, b, c⟩ => ⟨ws, t, a, b, e _ _ c⟩, h.ks⟩
theorem nodup_len {n : Nat} : ∀ {ks : List Nat}, ks.Nodup → (∀ k ∈ ks, k < n) → ks.length ≤ n := fun {ks} hn hk => by
  have hp : ks.Perm ((List.range n).filter fun k => decide (k ∈ ks)) := (List.perm_ext_iff_of_nodup hn (List.Pairwise.filter _ List.nodup_range)).mpr fun a => by
    rw [List.mem_filter, List.mem_range, decide_eq_true_eq]
    exact ⟨fun h => ⟨hk a h, h⟩, fun h => h.2⟩
  rw [hp.length_eq]
  have := List.length_filter_le (fun k => decide (k ∈ ks)) (List.range n)
  rw [List.length_range] at this
  exact this
theorem Mem.len {G : Hp} {n : Nat} {kvs : List (Key × V)} {mem : Nat → Option (List Int)} (h : Mem G n kvs mem) : kvs.length ≤ n := by
  obtain ⟨ks, h1, h2, h3⟩ := h.ks
  have := congrArg List.length h1
  rw [List.length_map, List.length_map] at this
  rw [this]
  exact nodup_len h2 fun k hk => ((h3 k).mp hk).1
def setM (mem : Nat → Option (List Int)) (i : Nat) (o : Option (List Int)) : Nat → Option (List Int) := fun x => if x = i then o else mem x
theorem put_map {kvs : List (Key × V)} {k : Key} {v : V} (h : valV kvs k ≠ none) : (putK kvs k v).map (·.1) = kvs.map (·.1) := by
  unfold putK
  have ha : (kvs.any fun kv => decide (kv.1 = k)) = true := by
    rw [valV_any]
    cases hx : valV kvs k with
    | none => exact absurd hx h
    | some x => rfl
  rw [if_pos ha, List.map_map]
  refine List.map_congr_left fun p _ => ?_
  show (if p.1 = k then (p.1, v) else p).1 = p.1
  split <;> rfl
theorem Mem.put {G : Hp} {n i : Nat} {kvs : List (Key × V)} {mem : Nat → Option (List Int)} {ws : List Int} {t : Addr} (h : Mem G n kvs mem) (hi : i < n) (ht : G t = some (.tup (ws.map V.int))) : Mem G n (putK kvs (.inl (i : Int)) (.ref t)) (setM mem i (some ws)) := by
  refine ⟨fun k => ?_, ?_⟩
  · rw [valV_put]
    unfold setM
    by_cases e : k = i
    · subst e
      rw [if_pos rfl, if_pos rfl]
      exact .inr ⟨ws, t, rfl, rfl, ht⟩
    · rw [if_neg e, if_neg (fun z => e (by have := Sum.inl.inj z; omega))]
      exact h.v k
  · obtain ⟨ks, h1, h2, h3⟩ := h.ks
    by_cases hm : mem i = none
    · refine ⟨ks ++ [i], ?_, ?_, fun k => ?_⟩
      · have hv : valV kvs (.inl (i : Int)) = none := by
          rcases h.v i with ⟨_, b⟩ | ⟨_, _, a, _⟩
          · exact b
          · rw [hm] at a
            cases a
        rw [LD.put_keys hv, List.map_append, List.map_append, h1]
        rfl
      · rw [List.nodup_append]
        exact ⟨h2, by simp, fun a ha b hb => by
          rw [List.mem_singleton.mp hb]
          exact fun e => ((h3 i).mp (e ▸ ha)).2 hm⟩
      · rw [List.mem_append, List.mem_singleton, h3]
        unfold setM
        by_cases e : k = i
        · rw [if_pos e, e]
          exact ⟨fun _ => ⟨hi, fun z => by cases z⟩, fun _ => .inr rfl⟩
        · rw [if_neg e]
          exact ⟨fun h => h.resolve_right e, .inl⟩
    · refine ⟨ks, ?_, h2, fun k => ?_⟩
      · rw [put_map, h1]
        rcases h.v i with ⟨a, _⟩ | ⟨_, _, _, b, _⟩
        · exact absurd a hm
        · rw [b]
          exact fun z => by cases z
      · rw [h3]
        unfold setM
        by_cases e : k = i
        · rw [if_pos e, e]
          exact ⟨fun _ => ⟨hi, fun z => by cases z⟩, fun _ => ⟨hi, hm⟩⟩
        · rw [if_neg e]
theorem Mem.del {G : Hp} {n i : Nat} {kvs : List (Key × V)} {mem : Nat → Option (List Int)} (h : Mem G n kvs mem) : Mem G n (dropK kvs (.inl (i : Int))) (setM mem i none) := by
  refine ⟨fun k => ?_, ?_⟩
  · rw [LD.valV_drop]
    unfold setM
    by_cases e : k = i
    · subst e
      rw [if_pos rfl, if_pos rfl]
      exact .inl ⟨rfl, rfl⟩
    · rw [if_neg e, if_neg (fun z => e (by have := Sum.inl.inj z; omega))]
      exact h.v k
  · obtain ⟨ks, h1, h2, h3⟩ := h.ks
    refine ⟨ks.filter fun k => decide (k ≠ i), ?_, List.Pairwise.filter _ h2, fun k => ?_⟩
    · have gen : ∀ (l : List (Key × V)) (ks : List Nat), l.map (·.1) = ks.map (fun k : Nat => (Sum.inl (k : Int) : Key)) → (dropK l (.inl (i : Int))).map (·.1) = (ks.filter fun k => decide (k ≠ i)).map (fun k : Nat => (Sum.inl (k : Int) : Key)) := by
        intro l
        induction l with
        | nil =>
          intro ks hk
          cases ks with
          | nil => rfl
          | cons a r => simp at hk
        | cons p r ih =>
          intro ks hk
          cases ks with
          | nil => simp at hk
          | cons a s =>
            rw [List.map_cons, List.map_cons] at hk
            have hk1 := (List.cons.inj hk).1
            have hk2 := (List.cons.inj hk).2
            unfold dropK at ih ⊢
            by_cases e : a = i
            · rw [List.filter_cons_of_neg (by rw [hk1, e]; simp), List.filter_cons_of_neg (by rw [e]; simp)]
              exact ih s hk2
            · rw [List.filter_cons_of_pos (by rw [hk1]; simp; omega), List.filter_cons_of_pos (by simpa using e), List.map_cons, List.map_cons, hk1, ih s hk2]
      exact gen kvs ks h1
    · rw [List.mem_filter, h3, decide_eq_true_eq]
      unfold setM
      by_cases e : k = i
      · rw [if_pos e]
        exact ⟨fun h => absurd e h.2, fun h => absurd rfl h.2⟩
      · rw [if_neg e]
        exact ⟨fun h => h.1, fun h => ⟨h, e⟩⟩
structure Cc where
  T : Addr
  H : Addr
  S : Addr
  D : Addr
structure Sk where
  dp : Addr
  hp : Addr
  sp : Addr
  tb : Addr
  m : Addr
  cl : Addr
  hl : Addr
  ka : Addr
  sa : Addr
  wa : Addr
  g : Int
  hs : List Bool
  f : Nat → List Int
  n : Nat
structure Sd where
  r : Int
  cs : List Int
  mem : Nat → Option (List Int)
structure ST (c : Cc) (G H : Hp) (q : Addr) (k : Sk) (d : Sd) : Prop where
  dk : DK c.D G H k.dp k.ka k.sa k.wa k.n ⟨k.f, [], true, none⟩
  o : ∃ dx, H q = some (.ins c.T dx (sfl k.dp k.hp k.sp k.tb d.r k.m))
  gq : G q = none
  h : ∃ dx, G k.hp = some (.ins c.H dx (hfl k.g k.tb k.n))
  s : ∃ dx, G k.sp = some (.ins c.S dx (flds k.n k.cl k.hl))
  c : H k.cl = some (.lst (d.cs.map V.int))
  gc : G k.cl = none
  hh : G k.hl = some (.lst (k.hs.map V.bl))
  lc : d.cs.length = k.n
  lh : k.hs.length = k.n
  mm : ∃ kvs, H k.m = some (.dK kvs) ∧ Mem G k.n kvs d.mem
  gm : G k.m = none
  q1 : q ≠ k.dp ∧ q ≠ k.ka ∧ q ≠ k.sa ∧ q ≠ k.wa
  c1 : k.cl ≠ k.dp ∧ k.cl ≠ k.ka ∧ k.cl ≠ k.sa ∧ k.cl ≠ k.wa
  m1 : k.m ≠ k.dp ∧ k.m ≠ k.ka ∧ k.m ≠ k.sa ∧ k.m ≠ k.wa
  qc : q ≠ k.cl
  qm : q ≠ k.m
  cm : k.cl ≠ k.m
theorem dk_bx {C : Addr} {G H H1 : Hp} {p ka sa wa x : Addr} {n : Nat} {d : Dk} (D : DK C G H p ka sa wa n d) (gx : G x = none) (nx : x ≠ p ∧ x ≠ ka ∧ x ≠ sa ∧ x ≠ wa) (b : Bx x H H1) : DK C G H1 p ka sa wa n d := by
  obtain ⟨dx, ho⟩ := D.o
  obtain ⟨ks, k1, k2, k3⟩ := D.k
  obtain ⟨ss, s1, s2, s3⟩ := D.s
  obtain ⟨ts, w1, w2, w3⟩ := D.w
  exact ⟨fun a o h => b a o (fun z => by rw [z, gx] at h; cases h) (D.g a o h), D.gp, D.gk, D.gs, D.gw, D.nks, D.nkw, D.nsw, ⟨dx, b _ _ nx.1.symm ho⟩, ⟨ks, b _ _ nx.2.1.symm k1, k2, k3⟩, ⟨ss, b _ _ nx.2.2.1.symm s1, s2, s3⟩, ⟨ts, b _ _ nx.2.2.2.symm w1, w2, w3⟩, D.n0, D.n1, D.wl, D.ok, D.kz⟩
section
variable {c : Cc} {G G' H H1 H2 : Hp} {q : Addr} {k : Sk} {d : Sd}
theorem ST.ex (s : ST c G H q k d) (e : Ex H H1) : ST c G H1 q k d := ⟨s.dk.ex e, let ⟨dx, h⟩ := s.o; ⟨dx, e _ _ h⟩, s.gq, s.h, s.s, e _ _ s.c, s.gc, s.hh, s.lc, s.lh, let ⟨kvs, a, b⟩ := s.mm; ⟨kvs, e _ _ a, b⟩, s.gm, s.q1, s.c1, s.m1, s.qc, s.qm, s.cm⟩
theorem ST.al (s : ST c G H q k d) : H q ≠ none ∧ H k.cl ≠ none ∧ H k.m ≠ none := by
  obtain ⟨dx, h⟩ := s.o
  obtain ⟨kvs, a, _⟩ := s.mm
  have hc := s.c
  exact ⟨by rw [h]; exact fun z => (by cases z), by rw [hc]; exact fun z => (by cases z), by rw [a]; exact fun z => by cases z⟩
/-- all that is new since H joins what is frozen -/
theorem ST.join (s : ST c G H q k d) (e : Ex H H1) : ∃ G', St G H G' H1 ∧ ST c G' H1 q k d ∧ ∀ a o, H a = none → H1 a = some o → G' a = some o := by
  obtain ⟨a1, a2, a3⟩ := s.al
  obtain ⟨S1, D1⟩ := s.dk.joinG e
  have gg : Ex G (grow G H H1 fun _ => False) := grow_ex
  have s1 := s.ex e
  exact ⟨grow G H H1 fun _ => False, S1, ⟨D1, s1.o, grow_no a1 s.gq, let ⟨dx, h⟩ := s.h; ⟨dx, gg _ _ h⟩, let ⟨dx, h⟩ := s.s; ⟨dx, gg _ _ h⟩, s1.c, grow_no a2 s.gc, gg _ _ s.hh, s.lc, s.lh, let ⟨kvs, a, b⟩ := s1.mm; ⟨kvs, a, b.ex gg⟩, grow_no a3 s.gm, s.q1, s.c1, s.m1, s.qc, s.qm, s.cm⟩, fun a o h h1 => grow_new (ND.DK.rec (motive := fun _ => G a = none) (fun g _ _ _ _ _ _ _ _ _ _ _ _ _ _ _ _ => fresh_back g h) s.dk) h id h1⟩
theorem ST.sp (s : ST c G H q k d) : NS.Sp' c.S H k.sp k.cl k.hl d.cs k.hs := ⟨by rw [s.lc, s.lh], by rw [s.lc]; exact s.dk.n1, let ⟨dx, h⟩ := s.s; ⟨dx, by rw [s.lc]; exact s.dk.g _ _ h⟩, s.c, s.dk.g _ _ s.hh⟩
theorem ST.setR {r : Int} (s : ST c G H q k d) {dx : Addr} (ho : H q = some (.ins c.T dx (sfl k.dp k.hp k.sp k.tb d.r k.m))) (e : Ex H H1) : ST c G (upd H1 q (.ins c.T dx (sfl k.dp k.hp k.sp k.tb r k.m))) q k { d with r := r } := by
  have s1 := s.ex e
  exact ⟨dk_bx s1.dk s.gq s.q1 (Bx.of (Ex.refl _)).up, ⟨dx, upd_same⟩, s.gq, s.h, s.s, by rw [upd_ne s.qc.symm]; exact s1.c, s.gc, s.hh, s.lc, s.lh, let ⟨kvs, a, b⟩ := s1.mm; ⟨kvs, by rw [upd_ne s.qm.symm]; exact a, b⟩, s.gm, s.q1, s.c1, s.m1, s.qc, s.qm, s.cm⟩
theorem ST.setC {cs : List Int} (s : ST c G H q k d) (hl : cs.length = d.cs.length) (e : Ex H H1) (e2 : Ex (upd H1 k.cl (.lst (cs.map V.int))) H2) : ST c G H2 q k { d with cs := cs } := by
  have s1 := s.ex e
  have t : ST c G (upd H1 k.cl (.lst (cs.map V.int))) q k { d with cs := cs } := ⟨dk_bx s1.dk s.gc s.c1 (Bx.of (Ex.refl _)).up, let ⟨dx, h⟩ := s1.o; ⟨dx, by rw [upd_ne s.qc]; exact h⟩, s.gq, s.h, s.s, upd_same, s.gc, s.hh, by rw [← s.lc]; exact hl, s.lh, let ⟨kvs, a, b⟩ := s1.mm; ⟨kvs, by rw [upd_ne s.cm.symm]; exact a, b⟩, s.gm, s.q1, s.c1, s.m1, s.qc, s.qm, s.cm⟩
  exact t.ex e2
theorem ST.setM {kvs : List (Key × V)} {mem : Nat → Option (List Int)} (s : ST c G H q k d) (hm : Mem G k.n kvs mem) (e : Ex H H1) : ST c G (upd H1 k.m (.dK kvs)) q k { d with mem := mem } := by
  have s1 := s.ex e
  exact ⟨dk_bx s1.dk s.gm s.m1 (Bx.of (Ex.refl _)).up, let ⟨dx, h⟩ := s1.o; ⟨dx, by rw [upd_ne s.qm]; exact h⟩, s.gq, s.h, s.s, by rw [upd_ne s.cm]; exact s1.c, s.gc, s.hh, s.lc, s.lh, ⟨kvs, upd_same, hm⟩, s.gm, s.q1, s.c1, s.m1, s.qc, s.qm, s.cm⟩
end

end NT

set_option Elab.async false
set_option linter.all false
set_option maxRecDepth 100000
set_option maxHeartbeats 4000000
namespace NT
open PySem PySem.Spec PyProof.Rows L2 Evl LK LT LG LS LQ LX LO LN LP LH LV LZ LW StX LD
open ND (DK Dk St)
open NS (fr cv hv headV used In flds)
/-! ### the store's methods -/
def blk (f : Nat → List Int) (k : Nat) : List Int := f (4 * k) ++ f (4 * k + 1) ++ f (4 * k + 2) ++ f (4 * k + 3)
def fre (k : Sk) (d : Sd) : Int := ((fr d.cs k.hs false).length : Int)
def cont (k : Sk) (d : Sd) (i : Nat) : List Int := match d.mem i with
  | some ws => ws
  | none => blk k.f i
def Fm (H H1 : Hp) (q : Addr) (k : Sk) : Prop := ∀ a o, H a = some o → a ≠ q → a ≠ k.cl → a ≠ k.m → H1 a = some o
def newB (k : Sk) (d : Sd) (i : Nat) : Bool := (decide (cv d.cs i > 0) && !hv k.hs i) && decide (cv d.cs i = 1)
def okB (xs : List V) : Prop := ∃ ws : List Int, xs = ws.map V.int ∧ ws.length = 32 ∧ ∀ z ∈ ws, 0 ≤ z
def spRb (C : Addr) : Sp := fun vs H Q _ => ∃ G p ka sa wa n f, ∃ i : Nat, vs = [.ref p, .int (i : Int)] ∧ DK C G H p ka sa wa n ⟨f, [], true, none⟩ ∧ i < n ∧ RetL ((blk f i).map V.int) H Q
def spGen (c : Cc) : Sp := fun vs H Q _ => ∃ G q k d, vs = [.ref q] ∧ ST c G H q k d ∧ RetV (.int (k.g + 1)) H Q
def spFree (c : Cc) : Sp := fun vs H Q _ => ∃ G q k d, vs = [.ref q] ∧ ST c G H q k d ∧ RetV (.int (fre k d)) H Q
def spReq (c : Cc) (CE : Addr) : Sp := fun vs H Q E => ∃ G q k d many, vs = [.ref q, .int many] ∧ ST c G H q k d ∧ (many + d.r ≤ fre k d → RetV .non H Q) ∧ (fre k d < many + d.r → ∀ H', Ex H H' → E (.ref CE) none H')
def spRead (c : Cc) (CN : Addr) : Sp := fun vs H Q E => ∃ G q k d t z xs, vs = [.ref q, .ref t] ∧ ST c G H q k d ∧ H t = some (.tup (.int z :: xs)) ∧ (∀ i : Nat, z = (i : Int) → 5 ≤ i → i < k.n → RetL ((cont k d i).map V.int) H Q) ∧ (¬ (5 ≤ z ∧ z < k.n) → ∀ H', Ex H H' → E (.ref CN) none H')
def spNp (c : Cc) (CE : Addr) : Sp := fun vs H Q E => ∃ G q k d, vs = [.ref q] ∧ ST c G H q k d ∧ (1 + d.r ≤ fre k d → ∀ v, headV (fr d.cs k.hs false) = v → ∀ t H', H t = none → Ex H H' → H' t = some (.tup [v, .int (k.g + 1)]) → Q (.ref t) H') ∧ (fre k d < 1 + d.r → ∀ H', Ex H H' → E (.ref CE) none H')
def spNew (c : Cc) (CN : Addr) : Sp := fun vs H Q E => ∃ G q k d t z xs, vs = [.ref q, .ref t] ∧ ST c G H q k d ∧ H t = some (.tup (.int z :: xs)) ∧ (∀ i : Nat, z = (i : Int) → i < k.n → RetV (.bl (newB k d i)) H Q) ∧ (¬ (0 ≤ z ∧ z < k.n) → ∀ H', Ex H H' → E (.ref CN) none H')
def spUses (c : Cc) (CN : Addr) : Sp := fun vs H Q E => ∃ G q k d t z xs, vs = [.ref q, .ref t] ∧ ST c G H q k d ∧ H t = some (.tup (.int z :: xs)) ∧ (∀ i : Nat, z = (i : Int) → i < k.n → RetV (.int (cv d.cs i)) H Q) ∧ (¬ (0 ≤ z ∧ z < k.n) → ∀ H', Ex H H' → E (.ref CN) none H')
def spUr (c : Cc) : Sp := fun vs H Q _ => ∃ G q k d r, vs = [.ref q, .int r] ∧ ST c G H q k d ∧ ∀ H1, Fm H H1 q k → ST c G H1 q k { d with r := r } → Q .non H1
def spShare (c : Cc) (CN : Addr) : Sp := fun vs H Q E => ∃ G q k d t z xs, vs = [.ref q, .ref t] ∧ ST c G H q k d ∧ H t = some (.tup (.int z :: xs)) ∧ (∀ i : Nat, z = (i : Int) → i < k.n → 5 ≤ i → cv d.cs i ≠ 0 → ∀ H1, Fm H H1 q k → ST c G H1 q k { d with cs := d.cs.set i (cv d.cs i + 1) } → Q .non H1) ∧ (¬ (0 ≤ z ∧ z < k.n ∧ 5 ≤ z ∧ cv d.cs z.toNat ≠ 0) → ∀ H', Ex H H' → E (.ref CN) none H')
def dropD (d : Sd) (i : Nat) : Sd := { d with cs := d.cs.set i (cv d.cs i + -1), mem := if cv d.cs i - 1 = 0 then setM d.mem i none else d.mem }
def spDrop (c : Cc) (CN : Addr) : Sp := fun vs H Q E => ∃ G q k d t z xs, vs = [.ref q, .ref t] ∧ ST c G H q k d ∧ H t = some (.tup (.int z :: xs)) ∧ (∀ i : Nat, z = (i : Int) → i < k.n → 5 ≤ i → cv d.cs i ≠ 0 → ∀ H1, Fm H H1 q k → ST c G H1 q k (dropD d i) → Q (.int (cv d.cs i - 1)) H1) ∧ (¬ (0 ≤ z ∧ z < k.n ∧ 5 ≤ z ∧ cv d.cs z.toNat ≠ 0) → ∀ H', Ex H H' → E (.ref CN) none H')
def spMake (c : Cc) (CN CE Pw : Addr) : Sp := fun vs H Q E => ∃ G q k d u xs, vs = [.ref q, .ref u] ∧ ST c G H q k d ∧ H u = some (.lst xs) ∧ (∀ x ∈ xs, ∃ n, ND.Kd H x n) ∧ Tab H Pw ∧ 0 ≤ d.r ∧ u ≠ k.cl ∧ (¬ okB xs → ∀ H', Ex H H' → E (.ref CN) none H') ∧ (okB xs → fre k d ≤ d.r → ∀ H', Ex H H' → E (.ref CE) none H') ∧
  (∀ (ws : List Int) (i : Nat), xs = ws.map V.int → ws.length = 32 → (∀ z ∈ ws, 0 ≤ z) → d.r < fre k d → headV (fr d.cs k.hs false) = .int (i : Int) → i < k.n → ∀ G' H1 t, St G H G' H1 → Fm H H1 q k → ST c G' H1 q k { d with cs := d.cs.set i 1, mem := setM d.mem i (some ws) } → H t = none → G' t = some (.tup [.int (i : Int), .int (k.g + 1)]) → Q (.ref t) H1)
def spWrite (c : Cc) (CN Pw : Addr) : Sp := fun vs H Q E => ∃ G q k d t z ys u xs, vs = [.ref q, .ref t, .ref u] ∧ ST c G H q k d ∧ H t = some (.tup (.int z :: ys)) ∧ H u = some (.lst xs) ∧ (∀ x ∈ xs, ∃ n, ND.Kd H x n) ∧ Tab H Pw ∧ (¬ (0 ≤ z ∧ z < k.n ∧ newB k d z.toNat = true ∧ okB xs) → ∀ H', Ex H H' → E (.ref CN) none H') ∧
  (∀ (ws : List Int) (i : Nat), xs = ws.map V.int → ws.length = 32 → (∀ z ∈ ws, 0 ≤ z) → z = (i : Int) → i < k.n → newB k d i = true → ∀ G' H1, St G H G' H1 → Fm H H1 q k → ST c G' H1 q k { d with mem := setM d.mem i (some ws) } → Q .non H1)
def memL (k : Sk) (d : Sd) : List Nat := (List.range k.n).filter fun i => (d.mem i).isSome
def spNb (c : Cc) : Sp := fun vs H Q _ => ∃ G q k d, vs = [.ref q] ∧ ST c G H q k d ∧ (memL k d).length < 64 ∧ RetL ((memL k d).map fun i : Nat => V.int (i : Int)) H Q
def tno : ∀ {dp hp sp tb m : Addr} {r : Int} {x : Str}, x = "generation" ∨ x = "free" ∨ x = "require" ∨ x = "is_new" ∨ x = "read" ∨ x = "make" ∨ x = "write" ∨ x = "share" ∨ x = "drop" ∨ x = "uses" ∨ x = "next_pointer" ∨ x = "new_blocks" ∨ x = "use_reserve" → (sfl dp hp sp tb r m).lookup x = Option.none := fun h => by
  rcases h with rfl | rfl | rfl | rfl | rfl | rfl | rfl | rfl | rfl | rfl | rfl | rfl | rfl <;> exact t_no ⟨by decide +kernel, by decide +kernel, by decide +kernel, by decide +kernel, by decide +kernel, by decide +kernel⟩
theorem sno : ∀ {n : Int} {cl hl : Addr} {x : Str}, x = "free" ∨ x = "least_free" ∨ x = "take" ∨ x = "is_new" ∨ x = "uses" ∨ x = "share" ∨ x = "drop" → (flds n cl hl).lookup x = Option.none := fun h => by
  rcases h with rfl | rfl | rfl | rfl | rfl | rfl | rfl <;> exact NS.fl_no _ _ _ ⟨by decide +kernel, by decide +kernel, by decide +kernel⟩
section
variable {K : PySem.W.Frag} {σ : L2.St} {H : Hp} {ta te : TE} {D : Ends}
theorem s_ext {l : Addr} {xs ys : List V} (hl : H l = some (.lst xs)) (ha : Ev ta σ H (.ref l)) (h : EvL te σ H ys) (hz : xs.length + ys.length ≤ 100000) (k : ∀ H1, Ex H H1 → D.nx σ (upd H1 l (.lst (xs ++ ys)))) :
    tDrop (tBM K "list" rExtend ta (tCons te tNil)) D σ H := ha H (Ex.refl H) _ fun H1 e1 =>
  ⟨Or.inl ⟨rfl, xs, sq_of (e1 l _ hl)⟩, h H1 e1 _ fun p H2 hp e2 h2 => ⟨l, p, xs, ys, rfl, rfl, e2 l _ (e1 l _ hl), h2, sz_of hz, k H2 (e1.trans e2)⟩⟩
end
section
variable {c : Cc} {G H H1 : Hp} {q : Addr} {k : Sk} {d : Sd}
theorem sv_gen (s : ST c G H q k d) : SpV (spGen c) [.ref q] H (.int (k.g + 1)) := fun H1 e1 Q qq E => ⟨G, q, k, d, rfl, s.ex e1, qq⟩
theorem sv_free (s : ST c G H q k d) : SpV (spFree c) [.ref q] H (.int (fre k d)) := fun H1 e1 Q qq E => ⟨G, q, k, d, rfl, s.ex e1, qq⟩
theorem fre_le (s : ST c G H q k d) : fre k d ≤ 256 := by
  have h1 := NS.fr_len d.cs k.hs false
  have h2 := s.lc
  have h3 := s.dk.n1
  unfold fre
  omega
theorem Fm.of (e : Ex H H1) : Fm H H1 q k := fun a o h _ _ _ => e _ _ h
theorem st_spu (s : ST c G H q k d) : ∃ dx, H k.sp = some (.ins c.S dx (flds k.n k.cl k.hl)) := by
  obtain ⟨dx, h⟩ := s.s
  exact ⟨dx, s.dk.g _ _ h⟩
end
section
variable {P : Program} {w : World} {K : PySem.W.Frag} {mg : Str → Option Value} {base : Heap} {c : Cc} {CN CO CE Pw : Addr}
theorem ok_rb {f fR : Addr} {fd fdR : FuncData} (F : Fun K "read_block" "read_block" sRb f fd) (GD_read : FnOk P w K mg base (L2.CX P w) 3 fR fdR ["self", "sector"] (ND.spRead c.D CN CO)) (bD_read : Binds K fdR ["self", "sector"] []) (mD_read : Meth K c.D "read" fR) (T : Txt mg) (TD : ND.Txt mg K c.D) : FnOk P w K mg base (L2.CX P w) 4 f fd ["disk", "number"] (spRb c.D) := by
  obtain ⟨_, gBLOCK_SECTORS⟩ := T.gBLOCK_SECTORS
  refine F.okX scRb (fun vs H Q E h => ?_) (fun cdv A outer s H vs Q E hr h => ?_)
  · obtain ⟨G, p, ka, sa, wa, n, f, i, rfl, _⟩ := h
    rfl
  · obtain ⟨G, p, ka, sa, wa, n, f, i, rfl, D, hi, q⟩ := h
    refine ⟨_, (pss_cons (ps_set (i := 2) scRb.nd rfl (Or.inl rfl) (pe_lst pa_nil))
      (pss_cons (ps_for (passes_of rfl) rfl (pi_range1 (by rfl) T.range (pa_cons (pe_glob (v := .int 4) rfl gBLOCK_SECTORS ⟨_, rfl⟩) pa_nil)) (pg_name (i := 3) scRb.nd rfl (Or.inl rfl)) (pss_one (ps_expr (pe_bm PySem.F.plainAttrs_list PySem.F.slot_list_extend PySem.F.type_list_extend mt_extend (pv 2) (pa_cons (pe_meth (pv 0) TD.cl mD_read GD_read (hr.mono (by decide)) bD_read .nil (pass_own (takes_of rfl rfl rfl rfl)) (pa_cons (pe_op op_add (pe_op op_mul (pe_glob (v := .int 4) rfl gBLOCK_SECTORS ⟨_, rfl⟩) (pv 1)) (pv 3)) pa_nil)) pa_nil)))))
      (pss_one (ps_ret (pv 2))))), ?_⟩
    obtain ⟨a1, a2, a3, a4⟩ := D.al
    refine q_asgL (el_lst ea_nil (by decide)) fun wl H1 hw e1 h1 => ?_
    have np : wl ≠ p ∧ wl ≠ ka ∧ wl ≠ sa ∧ wl ≠ wa := ⟨fun z => a1 (by rw [← z]; exact hw), fun z => a2 (by rw [← z]; exact hw), fun z => a3 (by rw [← z]; exact hw), fun z => a4 (by rw [← z]; exact hw)⟩
    refine q_forR1 (n := 4) (ea_cons ev_c ea_nil) ⟨by decide, by decide⟩ (fun j σ' B => ∃ y, σ' = [some (.ref p), some (.int (i : Int)), some (.ref wl), y] ∧ Ex H B ∧ DK c.D G B p ka sa wa n ⟨f, [], true, none⟩ ∧ B wl = some (.lst (((List.range j).flatMap fun x => f (4 * i + x)).map V.int)) ∧ ((List.range j).flatMap fun x => f (4 * i + x)).length = 8 * j) (fun B eB => ⟨none, rfl, e1.trans eB, D.ex (e1.trans eB), eB _ _ h1, rfl⟩) ?_ ?_
    · rintro j σ' B hj ⟨y, rfl, eB, DB, hB, hln⟩
      obtain ⟨dx, ho⟩ := DB.o
      have h8 := DB.kz (4 * i + j)
      refine s_ext (ys := (f (4 * i + j)).map V.int) hB (ev_var rfl) (el_meth (vs := [.int (4 * (i : Int) + j)]) (ev_var rfl) ho (ND.d_no ⟨by decide +kernel, by decide +kernel, by decide +kernel, by decide +kernel, by decide +kernel, by decide +kernel⟩) (ea_cons (ev_op (ev_op ev_c (ev_var rfl) (rv_I (.inl ⟨by decide, by decide⟩))) (ev_var rfl) rv_I0) ea_nil) (fun B1 b1 Q' q' E' => ⟨G, p, ka, sa, wa, n, _, 4 * (i : Int) + j, rfl, DB.ex b1, fun _ s hs hs4 => by
        have : s = 4 * i + j := by omega
        subst this
        exact q', fun h => (by cases h), fun _ hno => absurd ⟨by omega, by omega⟩ hno⟩)) (by
        rw [List.length_map, List.length_map, hln]
        have h8' : (f (4 * i + j)).length = 8 := h8
        omega) fun B1 b1 => ⟨_, rfl, (eB.trans b1).mut hw, dk_bx (DB.ex b1) (fresh_back D.g hw) np (Bx.of (Ex.refl _)).up, ?_, ?_⟩
      · rw [upd_same, List.range_succ, List.flatMap_append, List.map_append]
        simp
      · rw [List.range_succ, List.flatMap_append, List.length_append, hln]
        have h8' : (f (4 * i + j)).length = 8 := h8
        simp [h8']
        omega
    · rintro σ' B ⟨y, rfl, eB, DB, hB, _⟩
      refine s_ret (ev_var rfl) fun B1 b1 => q wl B1 hw (eB.trans b1) ?_
      rw [b1 _ _ hB]
      unfold blk
      simp [List.range_succ]
theorem ok_gen {f : Addr} {fd : FuncData} (F : Fun K "generation" "Store.generation" sGen f fd) (TT : TxT mg K c.T) (TH : TxH mg K c.H) : FnOk P w K mg base CX0 1 f fd ["self"] (spGen c) := by
  refine F.ok scGen (fun vs H Q E h => ?_) (fun cdv A outer s H vs Q E hr h => ?_)
  · obtain ⟨G, q, k, d, rfl, _⟩ := h
    rfl
  · obtain ⟨G, q, k, d, rfl, S, qq⟩ := h
    refine ⟨_, (pss_one (ps_ret (pe_op op_add (pe_fld (pe_fld (pv 0) rfl) rfl) pe_int))), ?_⟩
    obtain ⟨dx, ho⟩ := S.o
    obtain ⟨dh, hh⟩ := S.h
    exact s_ret (ev_op (ev_fld (ev_fld (ev_var rfl) ho TT.cl TT.nh t_h) (S.dk.g _ _ hh) TH.cl TH.ng rfl) ev_c rv_I0) qq
theorem ok_free {f fF : Addr} {fd fdF : FuncData} (F : Fun K "free" "Store.free" sFree f fd) (GSfree : FnOk P w K mg base CX0 2 fF fdF ["self"] (NS.spSelf c.S fun cs hs => .int ((fr cs hs false).length : Nat))) (bSfree : Binds K fdF ["self"] []) (mSfree : Meth K c.S "free" fF) (TT : TxT mg K c.T) (TS : NS.Txt mg K c.S) : FnOk P w K mg base CX0 3 f fd ["self"] (spFree c) := by
  refine F.ok scFree (fun vs H Q E h => ?_) (fun cdv A outer s H vs Q E hr h => ?_)
  · obtain ⟨G, q, k, d, rfl, _⟩ := h
    rfl
  · obtain ⟨G, q, k, d, rfl, S, qq⟩ := h
    refine ⟨_, (pss_one (ps_ret (pe_meth0 (pe_fld (pv 0) rfl) TS.cl mSfree GSfree (hr.mono (by decide)) bSfree .nil pass0))), ?_⟩
    obtain ⟨dx, ho⟩ := S.o
    obtain ⟨ds, hs⟩ := st_spu S
    exact s_ret (ev_meth0 (ev_fld (ev_var rfl) ho TT.cl TT.ns t_s) hs (sno (.inl rfl)) (NS.sv_self (f := fun cs hs => .int ((fr cs hs false).length : Nat)) S.sp)) qq
theorem ok_req {f fF : Addr} {fd fdF : FuncData} (F : Fun K "require" "Store.require" sReq f fd) (Gfree : FnOk P w K mg base CX0 3 fF fdF ["self"] (spFree c)) (bfree : Binds K fdF ["self"] []) (mfree : Meth K c.T "free" fF) (TT : TxT mg K c.T) (XS : Xc K mg "NoSpace" CE) : FnOk P w K mg base (L2.CX P w) 4 f fd ["self", "many"] (spReq c CE) := by
  refine F.okX scReq (fun vs H Q E h => ?_) (fun cdv A outer s H vs Q E hr h => ?_)
  · obtain ⟨G, q, k, d, many, rfl, _⟩ := h
    rfl
  · obtain ⟨G, q, k, d, many, rfl, S, qq, qE⟩ := h
    refine ⟨_, (pss_one (ps_if (pt_cmpR op_lt (pe_meth0 (pv 0) TT.cl mfree Gfree (hr.mono (by decide)) bfree .nil pass0) (pe_op op_add (pv 1) (pe_fld (pv 0) rfl)) (nomark _)) (pss_one (ps_raise0 rfl XS (takes_of rfl rfl rfl rfl) (by rfl))) pss_nil)), ?_⟩
    obtain ⟨dx, ho⟩ := S.o
    exact s_when (et_test (ev_op (ev_meth0 (ev_var rfl) ho (tno (.inr (.inl rfl))) (sv_free S)) (ev_op (ev_var rfl) (ev_fld (ev_var rfl) ho TT.cl TT.nr t_r) rv_I0) rv_I0)) (fun hb H1 e1 => qE (of_decide_eq_true hb) H1 e1) (fun hb H1 e1 => qq (by have := of_decide_eq_false hb; omega) H1 e1)
end

end NT

set_option Elab.async false
set_option linter.all false
set_option maxRecDepth 100000
set_option maxHeartbeats 4000000
namespace NT
open PySem PySem.Spec PyProof.Rows L2 Evl LK LT LG LS LQ LX LO LN LP LH LV LZ LW StX LD
open ND (DK Dk St)
open NS (fr cv hv headV used In flds)
section
variable {K : PySem.W.Frag} {σ : L2.St} {H : Hp} {ta te td tk : TE} {D : Ends} {tz : TS}
theorem el_listT {p : Addr} {xs : List V} (ha : Ev ta σ H (.ref p)) (h : SqT K H p xs) : EvL (tCB (rListS K) (tCons ta tNil)) σ H xs := fun H1 e Q q =>
  ha H1 e _ fun H2 e2 => ⟨p, xs, rfl, Or.inr (ex_t (e.trans e2) h), fun l hl => q l _ (fresh_back e2 hl) (e2.trans (Ex.new hl)) upd_same⟩
theorem q_dputU {d : Addr} {kvs : List (Key × V)} {z : Int} {xs : List V} (hv : EvU te σ H xs) (hd : Ev td σ H (.ref d)) (hk : Ev tk σ H (.int z)) (h : H d = some (.dK kvs)) (hl : kvs.length < 100000) (k : ∀ p H1, H p = none → Ex H H1 → H1 p = some (.tup xs) → tz D σ (upd H1 d (.dK (putK kvs (.inl z) (.ref p))))) : tSeq (sDPut td tk te) tz D σ H := s_dputU (D := { D with nx := tz D }) hv hd hk h hl k
theorem eu_tupV {p : Addr} {xs : List V} (h : Ev te σ H (.ref p)) (hx : H p = some (.lst xs)) : EvU (tCB (fun zs H Q => ∃ p ys, zs = [.ref p] ∧ ((SqL K H p ys ∧ ∀ l, H l = none → Q (.ref l) (upd H l (.tup ys))) ∨ (SqT K H p ys ∧ Q (.ref p) H))) (tCons te tNil)) σ H xs := fun H1 e Q q =>
  h H1 e _ fun H2 e2 => ⟨p, xs, rfl, .inl ⟨sq_of ((e.trans e2) _ _ hx), fun l hl => q l _ (fresh_back e2 hl) (e2.trans (Ex.new hl)) upd_same⟩⟩
end
section
variable {c : Cc} {G G1 H H1 H2 : Hp} {q : Addr} {k : Sk} {d d1 : Sd}
theorem al_of (f : Fm H H1 q k) (s1 : ST c G1 H1 q k d1) : ∀ a, H a ≠ none → H1 a ≠ none := fun a ha z => by
  obtain ⟨a1, a2, a3⟩ := s1.al
  cases ho : H a with
  | none => exact ha ho
  | some o =>
    by_cases e1 : a = q
    · exact a1 (by rw [← e1]; exact z)
    · by_cases e2 : a = k.cl
      · exact a2 (by rw [← e2]; exact z)
      · by_cases e3 : a = k.m
        · exact a3 (by rw [← e3]; exact z)
        · rw [f a o ho e1 e2 e3] at z
          cases z
theorem st_of' (f : Fm H H1 q k) (s1 : ST c G H1 q k d1) : St G H G H1 := ⟨Ex.refl _, fun _ _ h => h, al_of f s1⟩
theorem Fm.trans (f : Fm H H1 q k) (g : Fm H1 H2 q k) : Fm H H2 q k := fun a o h n1 n2 n3 => g a o (f a o h n1 n2 n3) n1 n2 n3
theorem Fm.cl {o : HO} (e : Ex H H1) (e2 : Ex (upd H1 k.cl o) H2) : Fm H H2 q k := fun a u h _ n2 _ => e2 _ _ (by rw [upd_ne n2]; exact e _ _ h)
theorem Fm.mm {o : HO} (e : Ex H H1) : Fm H (upd H1 k.m o) q k := fun a u h _ _ n3 => by rw [upd_ne n3]; exact e _ _ h
theorem Fm.qq {o : HO} (e : Ex H H1) : Fm H (upd H1 q o) q k := fun a u h n1 _ _ => by rw [upd_ne n1]; exact e _ _ h
theorem St.of {G H H1 : Hp} (e : Ex H H1) : St G H G H1 := ⟨Ex.refl _, fun _ _ h => h, fun a h z => h (fresh_back e z)⟩
theorem mem_val (s : ST c G H q k d) {kvs : List (Key × V)} (hm : Mem G k.n kvs d.mem) (i : Nat) : (d.mem i = none ∧ valV kvs (.inl (i : Int)) = none ∧ cont k d i = blk k.f i) ∨ ∃ ws t, d.mem i = some ws ∧ valV kvs (.inl (i : Int)) = some (.ref t) ∧ H t = some (.tup (ws.map V.int)) ∧ cont k d i = ws := by
  rcases hm.v i with ⟨a, b⟩ | ⟨ws, t, a, b, e⟩
  · refine .inl ⟨a, b, ?_⟩
    unfold cont
    rw [a]
  · refine .inr ⟨ws, t, a, b, s.dk.g _ _ e, ?_⟩
    unfold cont
    rw [a]
theorem wd_okB {xs : List V} : (decide ((xs.length : Int) = 32) && xs.all ND.wd) = true ↔ okB xs := by
  rw [Bool.and_eq_true_iff, decide_eq_true_eq]
  constructor
  · rintro ⟨h1, h2⟩
    obtain ⟨ws, rfl, hw⟩ := ND.okW_ints h2
    exact ⟨ws, rfl, by rw [List.length_map] at h1; omega, hw⟩
  · rintro ⟨ws, rfl, h1, h2⟩
    exact ⟨by rw [List.length_map, h1]; rfl, ND.ints_wd h2⟩
end
section
variable {P : Program} {w : World} {K : PySem.W.Frag} {mg : Str → Option Value} {base : Heap} {c : Cc} {CN CO CE Pw : Addr}
theorem ok_sread {f fW fR : Addr} {fd fdW fdR : FuncData} (F : Fun K "read" "Store.read" sRead f fd) (FW : Fun K "is_word" "is_word" ND.sIw fW fdW) (bW : Binds K fdW ["value"] []) (gW : mg "is_word" = some (.ref fW)) (FRb : Fun K "read_block" "read_block" sRb fR fdR) (GRb : FnOk P w K mg base (L2.CX P w) 4 fR fdR ["disk", "number"] (spRb c.D)) (bRb : Binds K fdR ["disk", "number"] []) (gRb : mg "read_block" = some (.ref fR)) (T : Txt mg) (TT : TxT mg K c.T) (TS : NS.Txt mg K c.S) (TD : ND.Txt mg K c.D) (XN : Xc K mg "NotValid" CN) : FnOk P w K mg base (L2.CX P w) 5 f fd ["self", "pointer"] (spRead c CN) := by
  have GW : FnOk P w K mg base CX0 1 fW fdW ["value"] ND.spIw := ND.ok_iw FW TD
  obtain ⟨_, gFIRST_BLOCK⟩ := T.gFIRST_BLOCK
  refine F.okX scRead (fun vs H Q E h => ?_) (fun cdv A outer s H vs Q E hr h => ?_)
  · obtain ⟨G, q, k, d, t, z, xs, rfl, _⟩ := h
    rfl
  · obtain ⟨G, q, k, d, t, z, xs, rfl, S, ht, qq, qE⟩ := h
    refine ⟨_, (pss_cons (ps_set (i := 2) scRead.nd rfl (Or.inl rfl) (pe_ix ix_tup (pv 1) pe_int (fun _ _ => rfl)))
      (pss_cons (ps_if (PW.pt (pw_or (pt_not (pt_val (pe_call GW (hr.mono (by decide)) (by rfl) gW FW.kp bW .nil pass0 (pa_cons (pv 2) pa_nil)))) (pw_or1 (pt_not (pt_chain op_le op_lt (pe_glob (v := .int 5) rfl gFIRST_BLOCK ⟨_, rfl⟩) (pv 2) (pe_fld (pe_fld (pv 0) rfl) rfl)))))) (pss_one (ps_raise0 rfl XN (takes_of rfl rfl rfl rfl) (by rfl))) pss_nil)
      (pss_cons (ps_if (pt_cmp (pc_din (hu_of hr) (pv 2) (pe_fld (pv 0) rfl))) (pss_one (ps_ret (pe_callTy call_list_of (by rfl) T.list (by decide +kernel) (pa_cons (pe_dget (hu_of hr) (pe_fld (pv 0) rfl) (pv 2) (fun _ _ => rfl)) pa_nil)))) pss_nil)
      (pss_one (ps_ret (pe_call GRb (hr.mono (by decide)) (by rfl) gRb FRb.kp bRb .nil (pass_own (takes_of rfl rfl rfl rfl)) (pa_cons (pe_fld (pv 0) rfl) (pa_cons (pv 2) pa_nil)))))))), ?_⟩
    obtain ⟨dx, ho⟩ := S.o
    obtain ⟨ds, hs⟩ := st_spu S
    refine q_asg (ev_op (ev_var rfl) ev_c (rv_ixT (st_of ht) (v := .int z) (atI_nat (j := 0) rfl))) fun H1 e1 => ?_
    refine q_when (b := !(decide (0 ≤ z) && (decide (5 ≤ z) && decide (z < k.n)))) (et_is (et_or (et_not (et_B (ev_call (vs := [.int z]) (ea_cons (ev_var rfl) ea_nil) (ND.sv_iw (.int z))))) (fun _ => et_not (et_chain ev_c (ev_var rfl) (ev_fld (ev_fld (ev_var rfl) (e1 _ _ ho) TT.cl TT.ns t_s) (e1 _ _ hs) TS.cl TS.nB (NS.fl_b _ _ _))))) (by
      show (!decide (0 ≤ z) || !(decide (5 ≤ z) && decide (z < (k.n : Int)))) = !(decide (0 ≤ z) && (decide (5 ≤ z) && decide (z < (k.n : Int))))
      cases decide (0 ≤ z) <;> rfl)) (fun hb H2 e2 => qE (fun h => by
      rw [decide_eq_true (show 0 ≤ z by omega), decide_eq_true h.1, decide_eq_true h.2] at hb
      cases hb) H2 (e1.trans e2)) (fun hb H2 e2 => ?_)
    have hz : 5 ≤ z ∧ z < k.n := by
      simp at hb
      omega
    obtain ⟨i, rfl⟩ := Int.eq_ofNat_of_zero_le (show 0 ≤ z by omega)
    have hi : i < k.n := by omega
    obtain ⟨kvs, hm, hM⟩ := S.mm
    have e12 := e1.trans e2
    have qq := qq i rfl (by omega) hi
    rcases mem_val S hM i with ⟨a, b, hc⟩ | ⟨ws, tt, a, b, hh, hc⟩
    · refine q_when (b := false) (et_is (et_B (ev_dIn (ev_var rfl) (ev_fld (ev_var rfl) (e12 _ _ ho) TT.cl TT.nm t_m) (e12 _ _ hm))) (by rw [b]; rfl)) (fun h => by cases h) (fun _ H3 e3 => ?_)
      rw [hc] at qq
      have e13 := e12.trans e3
      exact s_retL (el_call (vs := [.ref k.dp, .int (i : Int)]) (ea_cons (ev_fld (ev_var rfl) (e13 _ _ ho) TT.cl TT.nd t_d) (ea_cons (ev_var rfl) ea_nil)) (fun H4 e4 Q' q' E' => ⟨G, k.dp, k.ka, k.sa, k.wa, k.n, k.f, i, rfl, S.dk.ex (e13.trans e4), hi, q'⟩)) fun l H4 hl e4 h4 => qq l H4 (fresh_back e13 hl) (e13.trans e4) h4
    · refine q_when (b := true) (et_is (et_B (ev_dIn (ev_var rfl) (ev_fld (ev_var rfl) (e12 _ _ ho) TT.cl TT.nm t_m) (e12 _ _ hm))) (by rw [b]; rfl)) (fun _ H3 e3 => ?_) (fun h => by cases h)
      rw [hc] at qq
      have e13 := e12.trans e3
      exact s_retL (el_listT (ev_dget (ev_fld (ev_var rfl) (e13 _ _ ho) TT.cl TT.nm t_m) (ev_var rfl) (e13 _ _ hm) b) (st_of (e13 _ _ hh))) fun l H4 hl e4 h4 => qq l H4 (fresh_back e13 hl) (e13.trans e4) h4
theorem ok_np {f fQ fL fG : Addr} {fd fdQ fdL fdG : FuncData} (F : Fun K "next_pointer" "Store.next_pointer" sNp f fd) (Greq : FnOk P w K mg base (L2.CX P w) 4 fQ fdQ ["self", "many"] (spReq c CE)) (breq : Binds K fdQ ["self", "many"] []) (mreq : Meth K c.T "require" fQ) (Grequire : FnOk P w K mg base (L2.CX P w) 4 fQ fdQ ["self", "many"] (spReq c CE)) (brequire : Binds K fdQ ["self", "many"] []) (mrequire : Meth K c.T "require" fQ) (GSleast_free : FnOk P w K mg base CX0 5 fL fdL ["self"] (NS.spSelf c.S fun cs hs => headV (fr cs hs false))) (bSleast_free : Binds K fdL ["self"] []) (mSleast_free : Meth K c.S "least_free" fL) (Ggeneration : FnOk P w K mg base CX0 1 fG fdG ["self"] (spGen c)) (bgeneration : Binds K fdG ["self"] []) (mgeneration : Meth K c.T "generation" fG) (TT : TxT mg K c.T) (TS : NS.Txt mg K c.S) : FnOk P w K mg base (L2.CX P w) 6 f fd ["self"] (spNp c CE) := by
  refine F.okX scNp (fun vs H Q E h => ?_) (fun cdv A outer s H vs Q E hr h => ?_)
  · obtain ⟨G, q, k, d, rfl, _⟩ := h
    rfl
  · obtain ⟨G, q, k, d, rfl, S, qq, qE⟩ := h
    refine ⟨_, (pss_cons (ps_expr (pe_meth (pv 0) TT.cl mrequire Grequire (hr.mono (by decide)) brequire .nil (pass_own (takes_of rfl rfl rfl rfl)) (pa_cons pe_int pa_nil)))
      (pss_one (ps_ret (pe_tup (pa_cons (pe_meth0 (pe_fld (pv 0) rfl) TS.cl mSleast_free GSleast_free (hr.mono (by decide)) bSleast_free .nil pass0) (pa_cons (pe_meth0 (pv 0) TT.cl mgeneration Ggeneration (hr.mono (by decide)) bgeneration .nil pass0) pa_nil)))))), ?_⟩
    obtain ⟨dx, ho⟩ := S.o
    refine q_m (ev_var rfl) ho (tno (.inr (.inr (.inl rfl)))) (ea_cons ev_c ea_nil) fun H1 e1 => ⟨G, q, k, d, 1, rfl, S.ex e1, fun hle H2 e2 => ?_, fun hlt H2 e2 => qE hlt H2 (e1.trans e2)⟩
    have e12 := e1.trans e2
    have S2 := S.ex e12
    obtain ⟨ds, hs⟩ := st_spu S2
    exact s_retU (eu_tup (ea_cons (ev_meth0 (ev_fld (ev_var rfl) (e12 _ _ ho) TT.cl TT.ns t_s) hs (sno (.inr (.inl rfl))) (NS.sv_self (f := fun cs hs => headV (fr cs hs false)) S2.sp)) (ea_cons (ev_meth0 (ev_var rfl) (e12 _ _ ho) (tno (.inl rfl)) (sv_gen S2)) ea_nil)) (Nat.le_of_ble_eq_true rfl)) fun t H3 ht e3 h3 => qq hle _ rfl t H3 (fresh_back e12 ht) (e12.trans e3) h3
theorem ok_snew {f fN fU : Addr} {fd fdN fdU : FuncData} (F : Fun K "is_new" "Store.is_new" sNew f fd) (GSis_new : FnOk P w K mg base (L2.CX P w) 4 fN fdN ["self", "block"] (NS.spAt c.S CN NS.always fun cs hs k => .bl (decide (cv cs k > 0) && !hv hs k))) (bSis_new : Binds K fdN ["self", "block"] []) (mSis_new : Meth K c.S "is_new" fN) (GSuses : FnOk P w K mg base (L2.CX P w) 3 fU fdU ["self", "block"] (NS.spAt c.S CN NS.always fun cs _ k => .int (cv cs k))) (bSuses : Binds K fdU ["self", "block"] []) (mSuses : Meth K c.S "uses" fU) (TT : TxT mg K c.T) (TS : NS.Txt mg K c.S) : FnOk P w K mg base (L2.CX P w) 5 f fd ["self", "pointer"] (spNew c CN) := by
  refine F.okX scNew (fun vs H Q E h => ?_) (fun cdv A outer s H vs Q E hr h => ?_)
  · obtain ⟨G, q, k, d, t, z, xs, rfl, _⟩ := h
    rfl
  · obtain ⟨G, q, k, d, t, z, xs, rfl, S, ht, qq, qE⟩ := h
    refine ⟨_, (pss_cons (ps_set (i := 2) scNew.nd rfl (Or.inl rfl) (pe_ix ix_tup (pv 1) pe_int (fun _ _ => rfl)))
      (pss_one (ps_ret (pe_and (pe_meth (pe_fld (pv 0) rfl) TS.cl mSis_new GSis_new (hr.mono (by decide)) bSis_new .nil (pass_own (takes_of rfl rfl rfl rfl)) (pa_cons (pv 2) pa_nil)) (pe_one (pe_cmpR op_eq (pe_meth (pe_fld (pv 0) rfl) TS.cl mSuses GSuses (hr.mono (by decide)) bSuses .nil (pass_own (takes_of rfl rfl rfl rfl)) (pa_cons (pv 2) pa_nil)) pe_int (nomark _))))))), ?_⟩
    refine q_asg (ev_op (ev_var rfl) ev_c (rv_ixT (st_of ht) (v := .int z) (atI_nat (j := 0) rfl))) fun H1 e1 => ?_
    have S1 := S.ex e1
    obtain ⟨dx, ho⟩ := S1.o
    obtain ⟨ds, hs⟩ := st_spu S1
    by_cases hz : 0 ≤ z ∧ z < k.n
    · obtain ⟨i, rfl⟩ := Int.eq_ofNat_of_zero_le hz.1
      have hi : i < k.n := by omega
      have hlt : i < d.cs.length := by rw [S.lc]; exact hi
      refine s_ret (ev_is (ev_andV (ev_meth (ev_fld (ev_var rfl) ho TT.cl TT.ns t_s) hs (sno (.inr (.inr (.inr (.inl rfl))))) (ea_cons (ev_var rfl) ea_nil) (NS.sv_uses (CN := CN) (f := fun cs hs k => .bl (decide (cv cs k > 0) && !hv hs k)) S1.sp hlt)) (fun _ => ev_op (ev_meth (ev_fld (ev_var rfl) ho TT.cl TT.ns t_s) hs (sno (.inr (.inr (.inr (.inr (.inl rfl)))))) (ea_cons (ev_var rfl) ea_nil) (NS.sv_uses (CN := CN) (f := fun cs _ k => .int (cv cs k)) S1.sp hlt)) ev_c (rv_eq rfl))) (w := .bl (newB k d i)) (by unfold newB; simp)) fun H2 e2 => qq i rfl hi H2 (e1.trans e2)
    · refine ⟨.ref q, rfl, q, c.T, dx, _, .ref k.sp, rfl, ho, TT.cl, TT.ns, t_s, k.sp, ds, _, rfl, hs, sno (.inr (.inr (.inr (.inl rfl)))), .int z, rfl, k.sp, k.cl, k.hl, d.cs, k.hs, z, rfl, S1.sp, fun i hi hlt => absurd ⟨by omega, by have := S.lc; omega⟩ hz, fun hn H2 e2 => qE hz H2 (e1.trans e2)⟩
theorem ok_suses {f fU : Addr} {fd fdU : FuncData} (F : Fun K "uses" "Store.uses" sUses f fd) (GSuses : FnOk P w K mg base (L2.CX P w) 3 fU fdU ["self", "block"] (NS.spAt c.S CN NS.always fun cs _ k => .int (cv cs k))) (bSuses : Binds K fdU ["self", "block"] []) (mSuses : Meth K c.S "uses" fU) (TT : TxT mg K c.T) (TS : NS.Txt mg K c.S) : FnOk P w K mg base (L2.CX P w) 4 f fd ["self", "pointer"] (spUses c CN) := by
  refine F.okX scUses (fun vs H Q E h => ?_) (fun cdv A outer s H vs Q E hr h => ?_)
  · obtain ⟨G, q, k, d, t, z, xs, rfl, _⟩ := h
    rfl
  · obtain ⟨G, q, k, d, t, z, xs, rfl, S, ht, qq, qE⟩ := h
    refine ⟨_, (pss_one (ps_ret (pe_meth (pe_fld (pv 0) rfl) TS.cl mSuses GSuses (hr.mono (by decide)) bSuses .nil (pass_own (takes_of rfl rfl rfl rfl)) (pa_cons (pe_ix ix_tup (pv 1) pe_int (fun _ _ => rfl)) pa_nil)))), ?_⟩
    obtain ⟨dx, ho⟩ := S.o
    obtain ⟨ds, hs⟩ := st_spu S
    exact r_m (ev_fld (ev_var rfl) ho TT.cl TT.ns t_s) hs (sno (.inr (.inr (.inr (.inr (.inl rfl)))))) (ea_cons (ev_op (ev_var rfl) ev_c (rv_ixT (st_of ht) (v := .int z) (atI_nat (j := 0) rfl))) ea_nil) fun H1 e1 => ⟨k.sp, k.cl, k.hl, d.cs, k.hs, z, rfl, (S.ex e1).sp, fun i hi hlt _ H2 e2 => qq i hi (by rw [← S.lc]; exact hlt) H2 (e1.trans e2), fun hn H2 e2 => qE (fun h => hn ⟨⟨h.1, by rw [S.lc]; exact h.2⟩, True.intro⟩) H2 (e1.trans e2)⟩
theorem ok_ur {f : Addr} {fd : FuncData} (F : Fun K "use_reserve" "Store.use_reserve" sUr f fd) (TT : TxT mg K c.T) : FnOk P w K mg base CX0 1 f fd ["self", "reserve"] (spUr c) := by
  refine F.ok scUr (fun vs H Q E h => ?_) (fun cdv A outer s H vs Q E hr h => ?_)
  · obtain ⟨G, q, k, d, r, rfl, _⟩ := h
    rfl
  · obtain ⟨G, q, k, d, r, rfl, S, qq⟩ := h
    refine ⟨_, (pss_one (ps_fld (pv 0) (pv 1) rfl)), ?_⟩
    obtain ⟨dx, ho⟩ := S.o
    refine s_fld (ev_var rfl) (ev_var rfl) ho TT.cl TT.nr (by show 6 < 1000; decide) fun H1 e1 => ?_
    rw [t_pr]
    exact qq _ (Fm.qq e1) (S.setR ho e1)
theorem ok_sshare {f fC : Addr} {fd fdC : FuncData} (F : Fun K "share" "Store.share" sShare f fd) (GSshare : FnOk P w K mg base (L2.CX P w) 4 fC fdC ["self", "block"] (NS.spChg c.S CN 1 fun _ _ => .non)) (bSshare : Binds K fdC ["self", "block"] []) (mSshare : Meth K c.S "share" fC) (TT : TxT mg K c.T) (TS : NS.Txt mg K c.S) : FnOk P w K mg base (L2.CX P w) 5 f fd ["self", "pointer"] (spShare c CN) := by
  refine F.okX scShare (fun vs H Q E h => ?_) (fun cdv A outer s H vs Q E hr h => ?_)
  · obtain ⟨G, q, k, d, t, z, xs, rfl, _⟩ := h
    rfl
  · obtain ⟨G, q, k, d, t, z, xs, rfl, S, ht, qq, qE⟩ := h
    refine ⟨_, (pss_one (ps_expr (pe_meth (pe_fld (pv 0) rfl) TS.cl mSshare GSshare (hr.mono (by decide)) bSshare .nil (pass_own (takes_of rfl rfl rfl rfl)) (pa_cons (pe_ix ix_tup (pv 1) pe_int (fun _ _ => rfl)) pa_nil)))), ?_⟩
    obtain ⟨dx, ho⟩ := S.o
    obtain ⟨ds, hs⟩ := st_spu S
    exact s_m (ev_fld (ev_var rfl) ho TT.cl TT.ns t_s) hs (sno (.inr (.inr (.inr (.inr (.inr (.inl rfl))))))) (ea_cons (ev_op (ev_var rfl) ev_c (rv_ixT (st_of ht) (v := .int z) (atI_nat (j := 0) rfl))) ea_nil) fun H1 e1 => ⟨k.sp, k.cl, k.hl, d.cs, k.hs, z, rfl, (S.ex e1).sp, fun i hi hlt hu H2 H3 e2 e3 => qq i hi (by rw [← S.lc]; exact hlt) (by have := hu.1; omega) (by have := hu.2; rw [hi, Int.toNat_natCast] at this; exact this) H3 (Fm.cl (e1.trans e2) e3) (S.setC (by rw [List.length_set]) (e1.trans e2) e3), fun hn H2 e2 => qE (fun h => hn ⟨⟨h.1, by rw [S.lc]; exact h.2.1⟩, h.2.2.1, h.2.2.2⟩) H2 (e1.trans e2)⟩
theorem ok_sdrop {f fC : Addr} {fd fdC : FuncData} (F : Fun K "drop" "Store.drop" sDrop f fd) (GSdrop : FnOk P w K mg base (L2.CX P w) 4 fC fdC ["self", "block"] (NS.spChg c.S CN (-1) fun cs k => .int (cv cs k - 1))) (bSdrop : Binds K fdC ["self", "block"] []) (mSdrop : Meth K c.S "drop" fC) (TT : TxT mg K c.T) (TS : NS.Txt mg K c.S) : FnOk P w K mg base (L2.CX P w) 5 f fd ["self", "pointer"] (spDrop c CN) := by
  refine F.okX scDrop (fun vs H Q E h => ?_) (fun cdv A outer s H vs Q E hr h => ?_)
  · obtain ⟨G, q, k, d, t, z, xs, rfl, _⟩ := h
    rfl
  · obtain ⟨G, q, k, d, t, z, xs, rfl, S, ht, qq, qE⟩ := h
    refine ⟨_, (pss_cons (ps_set (i := 2) scDrop.nd rfl (Or.inl rfl) (pe_ix ix_tup (pv 1) pe_int (fun _ _ => rfl)))
      (pss_cons (ps_set (i := 3) scDrop.nd rfl (Or.inl rfl) (pe_meth (pe_fld (pv 0) rfl) TS.cl mSdrop GSdrop (hr.mono (by decide)) bSdrop .nil (pass_own (takes_of rfl rfl rfl rfl)) (pa_cons (pv 2) pa_nil)))
      (pss_cons (ps_if (PW.pt (pw_and (pt_cmpR op_eq (pv 3) pe_int (nomark _)) (pw_and1 (pt_cmp (pc_din (hu_of hr) (pv 2) (pe_fld (pv 0) rfl)))))) (pss_one (ps_ddel (pe_fld (pv 0) rfl) (pv 2))) pss_nil)
      (pss_one (ps_ret (pv 3)))))), ?_⟩
    obtain ⟨dx, ho⟩ := S.o
    obtain ⟨ds, hs⟩ := st_spu S
    refine q_asg (ev_op (ev_var rfl) ev_c (rv_ixT (st_of ht) (v := .int z) (atI_nat (j := 0) rfl))) fun H0 e0 => ?_
    refine q_mA (ev_fld (ev_var rfl) (e0 _ _ ho) TT.cl TT.ns t_s) (e0 _ _ hs) (sno (.inr (.inr (.inr (.inr (.inr (.inr rfl))))))) (ea_cons (ev_var rfl) ea_nil) fun H1 e1 => ⟨k.sp, k.cl, k.hl, d.cs, k.hs, z, rfl, (S.ex (e0.trans e1)).sp, fun i hi hlt hu H2 H3 e2 e3 => ?_, fun hn H2 e2 => qE (fun h => hn ⟨⟨h.1, by rw [S.lc]; exact h.2.1⟩, h.2.2.1, h.2.2.2⟩) H2 ((e0.trans e1).trans e2)⟩
    subst hi
    have e02 := (e0.trans e1).trans e2
    have S3 := S.setC (by rw [List.length_set]) e02 e3
    have F3 : Fm H H3 q k := Fm.cl e02 e3
    have qq := qq i rfl (by rw [← S.lc]; exact hlt) (by have := hu.1; omega) (by have := hu.2; rw [Int.toNat_natCast] at this; exact this)
    obtain ⟨dx3, ho3⟩ := S3.o
    obtain ⟨kvs, hm, hM⟩ := S3.mm
    refine q_when (b := decide (cv d.cs i - 1 = 0) && (valV kvs (.inl (i : Int))).isSome) (et_is (et_and (et_test (ev_op (ev_var rfl) ev_c (rv_eq rfl))) (fun _ => et_B (ev_dIn (ev_var rfl) (ev_fld (ev_var rfl) ho3 TT.cl TT.nm t_m) hm))) (by simp)) (fun hb H4 e4 => ?_) (fun hb H4 e4 => ?_)
    · obtain ⟨h1, h2⟩ := Bool.and_eq_true_iff.mp hb
      have h1 := of_decide_eq_true h1
      refine s_ddel (ev_fld (ev_var rfl) (e4 _ _ ho3) TT.cl TT.nm t_m) (ev_var rfl) (e4 _ _ hm) h2 fun H5 e5 => ?_
      have S5 := S3.setM (hM.del (i := i)) (e4.trans e5)
      refine s_ret (ev_var rfl) fun H6 e6 => qq H6 ((F3.trans (Fm.mm (e4.trans e5))).trans (Fm.of e6)) ?_
      have hd : dropD d i = { d with cs := d.cs.set i (cv d.cs i + -1), mem := setM d.mem i none } := by
        unfold dropD
        rw [if_pos h1]
      rw [hd]
      exact S5.ex e6
    · refine s_ret (ev_var rfl) fun H6 e6 => qq H6 (F3.trans (Fm.of (e4.trans e6))) ?_
      have hd : dropD d i = { d with cs := d.cs.set i (cv d.cs i + -1) } := by
        unfold dropD
        by_cases h1 : cv d.cs i - 1 = 0
        · rw [if_pos h1]
          have hn : d.mem i = none := by
            rcases hM.v i with ⟨a, _⟩ | ⟨_, _, _, b, _⟩
            · exact a
            · rw [b, decide_eq_true h1] at hb
              cases hb
          have : setM d.mem i none = d.mem := funext fun x => by
            unfold setM
            split
            · rename_i e
              rw [e, hn]
            · rfl
          rw [this]
        · rw [if_neg h1]
      rw [hd]
      exact S3.ex (e4.trans e6)
end

end NT

set_option Elab.async false
set_option linter.all false
set_option maxRecDepth 100000
set_option maxHeartbeats 4000000
namespace NT
open PySem PySem.Spec PyProof.Rows L2 Evl LK LT LG LS LQ LX LO LN LP LH LV LZ LW StX LD
open ND (DK Dk St)
open NS (fr cv hv headV used In flds)
section
variable {P : Program} {w : World} {K : PySem.W.Frag} {mg : Str → Option Value} {base : Heap} {c : Cc} {CN CO CE Pw : Addr}
theorem ok_make {f fA fT fG : Addr} {fd fdA fdT fdG : FuncData} (F : Fun K "make" "Store.make" sMake f fd) (FAw : Fun K "are_words" "are_words" ND.sAre fA fdA) (GAw : FnOk P w K mg base CX0 1 fA fdA ["values", "many"] (ND.spAre Pw)) (bAw : Binds K fdA ["values", "many"] []) (gAw : mg "are_words" = some (.ref fA)) (GStake : FnOk P w K mg base (L2.CX P w) 6 fT fdT ["self", "reserve"] (NS.spTake c.S CE)) (bStake : Binds K fdT ["self", "reserve"] []) (mStake : Meth K c.S "take" fT)
    (Ggeneration : FnOk P w K mg base CX0 1 fG fdG ["self"] (spGen c)) (bgeneration : Binds K fdG ["self"] []) (mgeneration : Meth K c.T "generation" fG) (T : Txt mg) (TT : TxT mg K c.T) (TS : NS.Txt mg K c.S) (XN : Xc K mg "NotValid" CN) : FnOk P w K mg base (L2.CX P w) 7 f fd ["self", "words"] (spMake c CN CE Pw) := by
  obtain ⟨_, gBLOCK_WORDS⟩ := T.gBLOCK_WORDS
  refine F.okX scMake (fun vs H Q E h => ?_) (fun cdv A outer s H vs Q E hr h => ?_)
  · obtain ⟨G, q, k, d, u, xs, rfl, _⟩ := h
    rfl
  · obtain ⟨G, q, k, d, u, xs, rfl, S, hu, hk, hT, hr0, huc, qN, qE, qq⟩ := h
    refine ⟨_, (pss_cons (ps_if (pt_not (pt_val (pe_call GAw (hr.mono (by decide)) (by rfl) gAw FAw.kp bAw .nil pass0 (pa_cons (pv 1) (pa_cons (pe_glob (v := .int 32) rfl gBLOCK_WORDS ⟨_, rfl⟩) pa_nil))))) (pss_one (ps_raise0 rfl XN (takes_of rfl rfl rfl rfl) (by rfl))) pss_nil)
      (pss_cons (ps_set (i := 2) scMake.nd rfl (Or.inl rfl) (pe_meth (pe_fld (pv 0) rfl) TS.cl mStake GStake (hr.mono (by decide)) bStake .nil (pass_own (takes_of rfl rfl rfl rfl)) (pa_cons (pe_fld (pv 0) rfl) pa_nil)))
      (pss_cons (ps_dput (hu_of hr) (pe_fld (pv 0) rfl) (pv 2) (pe_callTy call_tuple_of (by rfl) T.tuple (by decide +kernel) (pa_cons (pv 1) pa_nil)) (by rfl))
      (pss_one (ps_ret (pe_tup (pa_cons (pv 2) (pa_cons (pe_meth0 (pv 0) TT.cl mgeneration Ggeneration (hr.mono (by decide)) bgeneration .nil pass0) pa_nil)))))))), ?_⟩
    obtain ⟨dx, ho⟩ := S.o
    obtain ⟨ds, hs⟩ := st_spu S
    refine q_when (et_not (et_B (ev_call (vs := [.ref u, .int 32]) (ea_cons (ev_var rfl) (ea_cons ev_c ea_nil)) (fun H1 e1 Q' q' E' => ⟨hT.mono e1, u, xs, 32, rfl, e1 _ _ hu, fun x hx => let ⟨n, h⟩ := hk x hx; ⟨n, h.mono e1⟩, q'⟩)))) (fun hb H1 e1 => ?_) (fun hb H1 e1 => ?_)
    · refine qN (fun h => ?_) H1 e1
      rw [wd_okB.mpr h] at hb
      cases hb
    have hok : okB xs := wd_okB.mp (by
      cases hx : (decide ((xs.length : Int) = 32) && xs.all ND.wd) with
      | true => rfl
      | false =>
        rw [hx] at hb
        cases hb)
    obtain ⟨ws, hws, hl32, hnn⟩ := id hok
    refine q_mA (ev_fld (ev_var rfl) (e1 _ _ ho) TT.cl TT.ns t_s) (e1 _ _ hs) (sno (.inr (.inr (.inl rfl)))) (ea_cons (ev_fld (ev_var rfl) (e1 _ _ ho) TT.cl TT.nr t_r) ea_nil) fun H2 e2 => ⟨k.sp, k.cl, k.hl, d.cs, k.hs, d.r, rfl, (S.ex (e1.trans e2)).sp, hr0, fun hle H3 e3 => qE hok hle H3 ((e1.trans e2).trans e3), fun hlt i H3 H4 hv hi e3 e4 => ?_⟩
    have e03 := (e1.trans e2).trans e3
    have hin : i < k.n := by rw [← S.lc]; exact hi
    have S4 := S.setC (by rw [List.length_set]) e03 e4
    have F4 : Fm H H4 q k := Fm.cl e03 e4
    obtain ⟨dx4, ho4⟩ := S4.o
    obtain ⟨kvs, hm, hM⟩ := S4.mm
    have hu4 : H4 u = some (.lst xs) := e4 _ _ (by rw [upd_ne huc]; exact e03 _ _ hu)
    refine q_dputU (eu_tupV (ev_var rfl) hu4) (ev_fld (ev_var rfl) ho4 TT.cl TT.nm t_m) (ev_var rfl) hm (by have := hM.len; have := S.dk.n1; omega) fun t5 H5 ht5 e5 h5 => ?_
    obtain ⟨G5, J5, S5, new5⟩ := S4.join e5
    obtain ⟨kvs5, hm5, hM5⟩ := S5.mm
    have hkv : kvs5 = kvs := by
      rw [e5 _ _ hm] at hm5
      exact (HO.dK.inj (Option.some.inj hm5)).symm
    rw [hkv] at hM5 hm5
    have S6 := S5.setM (hM5.put (ws := ws) hin (new5 _ _ ht5 (by rw [h5, hws]))) (Ex.refl _)
    have F6 : Fm H (upd H5 k.m (.dK (putK kvs (.inl (i : Int)) (.ref t5)))) q k := F4.trans (Fm.mm e5)
    have A6 : St G H G5 (upd H5 k.m (.dK (putK kvs (.inl (i : Int)) (.ref t5)))) := ⟨J5.g, fun a ha g => J5.n a (al_of F4 S4 a ha) g, al_of F6 S6⟩
    generalize upd H5 k.m (.dK (putK kvs (.inl (i : Int)) (.ref t5))) = H6 at *
    obtain ⟨dx6, ho6⟩ := S6.o
    refine s_retU (eu_tup (ea_cons (ev_var rfl) (ea_cons (ev_meth0 (ev_var rfl) ho6 (tno (.inl rfl)) (sv_gen S6)) ea_nil)) (Nat.le_of_ble_eq_true rfl)) fun t H7 ht e7 h7 => ?_
    obtain ⟨G7, J7, S7, new7⟩ := S6.join e7
    exact qq ws i hws hl32 hnn hlt hv hin G7 H7 t (A6.trans J7) (F6.trans (Fm.of e7)) S7 (Classical.byContradiction fun h => al_of F6 S6 t h ht) (new7 _ _ ht h7)
theorem ok_swrite {f fA fN : Addr} {fd fdA fdN : FuncData} (F : Fun K "write" "Store.write" sWrite f fd) (FAw : Fun K "are_words" "are_words" ND.sAre fA fdA) (GAw : FnOk P w K mg base CX0 1 fA fdA ["values", "many"] (ND.spAre Pw)) (bAw : Binds K fdA ["values", "many"] []) (gAw : mg "are_words" = some (.ref fA)) (Gis_new : FnOk P w K mg base (L2.CX P w) 5 fN fdN ["self", "pointer"] (spNew c CN)) (bis_new : Binds K fdN ["self", "pointer"] []) (mis_new : Meth K c.T "is_new" fN) (T : Txt mg) (TT : TxT mg K c.T) (XN : Xc K mg "NotValid" CN) : FnOk P w K mg base (L2.CX P w) 6 f fd ["self", "pointer", "words"] (spWrite c CN Pw) := by
  obtain ⟨_, gBLOCK_WORDS⟩ := T.gBLOCK_WORDS
  refine F.okX scWrite (fun vs H Q E h => ?_) (fun cdv A outer s H vs Q E hr h => ?_)
  · obtain ⟨G, q, k, d, t, z, ys, u, xs, rfl, _⟩ := h
    rfl
  · obtain ⟨G, q, k, d, t, z, ys, u, xs, rfl, S, ht, hu, hk, hT, qN, qq⟩ := h
    refine ⟨_, (pss_cons (ps_if (PW.pt (pw_or (pt_not (pt_val (pe_meth (pv 0) TT.cl mis_new Gis_new (hr.mono (by decide)) bis_new .nil (pass_own (takes_of rfl rfl rfl rfl)) (pa_cons (pv 1) pa_nil)))) (pw_or1 (pt_not (pt_val (pe_call GAw (hr.mono (by decide)) (by rfl) gAw FAw.kp bAw .nil pass0 (pa_cons (pv 2) (pa_cons (pe_glob (v := .int 32) rfl gBLOCK_WORDS ⟨_, rfl⟩) pa_nil)))))))) (pss_one (ps_raise0 rfl XN (takes_of rfl rfl rfl rfl) (by rfl))) pss_nil)
      (pss_one (ps_dput (hu_of hr) (pe_fld (pv 0) rfl) (pe_ix ix_tup (pv 1) pe_int (fun _ _ => rfl)) (pe_callTy call_tuple_of (by rfl) T.tuple (by decide +kernel) (pa_cons (pv 2) pa_nil)) (by rfl)))), ?_⟩
    obtain ⟨dx, ho⟩ := S.o
    by_cases hz : 0 ≤ z ∧ z < k.n
    · obtain ⟨i, rfl⟩ := Int.eq_ofNat_of_zero_le hz.1
      have hi : i < k.n := by omega
      refine q_when (et_or (et_not (et_B (ev_meth (z := .bl (newB k d i)) (ev_var rfl) ho (tno (.inr (.inr (.inr (.inl rfl))))) (ea_cons (ev_var rfl) ea_nil) (fun H1 e1 Q' q' E' => ⟨G, q, k, d, t, (i : Int), ys, rfl, S.ex e1, e1 _ _ ht, fun j hj hjn => by
        have : i = j := by omega
        subst this
        exact q', fun hn => absurd hz hn⟩)))) (fun _ => et_not (et_B (ev_call (vs := [.ref u, .int 32]) (ea_cons (ev_var rfl) (ea_cons ev_c ea_nil)) (fun H1 e1 Q' q' E' => ⟨hT.mono e1, u, xs, 32, rfl, e1 _ _ hu, fun x hx => let ⟨n, h⟩ := hk x hx; ⟨n, h.mono e1⟩, q'⟩))))) (fun hb H1 e1 => ?_) (fun hb H1 e1 => ?_)
      · refine qN (fun h => ?_) H1 e1
        have h3 := h.2.2.1
        rw [Int.toNat_natCast] at h3
        rw [h3, wd_okB.mpr h.2.2.2] at hb
        cases hb
      have hb2 : newB k d i = true ∧ (decide ((xs.length : Int) = 32) && xs.all ND.wd) = true := by
        cases h1 : newB k d i with
        | false =>
          rw [h1] at hb
          cases hb
        | true =>
          refine ⟨rfl, ?_⟩
          cases h2 : (decide ((xs.length : Int) = 32) && xs.all ND.wd) with
          | true => rfl
          | false =>
            rw [h1, h2] at hb
            cases hb
      obtain ⟨ws, hws, hl32, hnn⟩ := wd_okB.mp hb2.2
      obtain ⟨kvs, hm, hM⟩ := S.mm
      refine s_dputU (eu_tupV (ev_var rfl) (e1 _ _ hu)) (ev_fld (ev_var rfl) (e1 _ _ ho) TT.cl TT.nm t_m) (ev_op (ev_var rfl) ev_c (rv_ixT (st_of (e1 _ _ ht)) (v := .int (i : Int)) (atI_nat (j := 0) rfl))) (e1 _ _ hm) (by have := hM.len; have := S.dk.n1; omega) fun t5 H5 ht5 e5 h5 => ?_
      obtain ⟨G5, J5, S5, new5⟩ := S.join (e1.trans e5)
      obtain ⟨kvs5, hm5, hM5⟩ := S5.mm
      have hkv : kvs5 = kvs := by
        rw [(e1.trans e5) _ _ hm] at hm5
        exact (HO.dK.inj (Option.some.inj hm5)).symm
      rw [hkv] at hM5 hm5
      have S6 := S5.setM (hM5.put (ws := ws) hi (new5 _ _ (fresh_back e1 ht5) (by rw [h5, hws]))) (Ex.refl _)
      have F6 : Fm H (upd H5 k.m (.dK (putK kvs (.inl (i : Int)) (.ref t5)))) q k := Fm.mm (e1.trans e5)
      exact qq ws i hws hl32 hnn rfl hi hb2.1 G5 _ ⟨J5.g, J5.n, al_of F6 S6⟩ F6 S6
    · show tMeth c.T "is_new" (spNew c CN) [] _ (tVar 0) (tCons (tVar 1) tNil) _ H _
      exact m_run (ev_var rfl) ho (tno (.inr (.inr (.inr (.inl rfl))))) (ea_cons (ev_var rfl) ea_nil) fun H1 e1 => ⟨G, q, k, d, t, z, ys, rfl, S.ex e1, e1 _ _ ht, fun i hi hlt => absurd ⟨by omega, by omega⟩ hz, fun hn H2 e2 => qN (fun h => hz ⟨h.1, h.2.1⟩) H2 (e1.trans e2)⟩
theorem memL_sorted (k : Sk) (d : Sd) : ((memL k d).map fun i : Nat => (i : Int)).Pairwise (· ≤ ·) := by
  rw [List.pairwise_map]
  refine (List.Pairwise.filter _ (List.pairwise_lt_range (n := k.n))).imp fun h => ?_
  omega
end

end NT

set_option Elab.async false
set_option linter.all false
set_option maxRecDepth 100000
set_option maxHeartbeats 4000000
namespace NT
open PySem PySem.Spec PyProof.Rows L2 Evl LK LT LG LS LQ LX LO LN LP LH LV LZ LW StX LD
open ND (DK Dk St)
open NS (fr cv hv headV used In flds)
/-! ### the makers -/
structure SP (c : Cc) (G H : Hp) (q : Addr) (k : Sk) (cs : List Int) : Prop where
  dk : DK c.D G H k.dp k.ka k.sa k.wa k.n ⟨k.f, [], true, none⟩
  gq : G q = none
  h : ∃ dx, G k.hp = some (.ins c.H dx (hfl k.g k.tb k.n))
  s : ∃ dx, G k.sp = some (.ins c.S dx (flds k.n k.cl k.hl))
  c : H k.cl = some (.lst (cs.map V.int))
  gc : G k.cl = none
  hh : G k.hl = some (.lst (k.hs.map V.bl))
  lc : cs.length = k.n
  lh : k.hs.length = k.n
  q1 : q ≠ k.dp ∧ q ≠ k.ka ∧ q ≠ k.sa ∧ q ≠ k.wa
  c1 : k.cl ≠ k.dp ∧ k.cl ≠ k.ka ∧ k.cl ≠ k.sa ∧ k.cl ≠ k.wa
  qc : q ≠ k.cl
def spHin (c : Cc) : Sp := fun vs H Q _ => ∃ (p tb dx : Addr) (g n : Int), vs = [.ref p, .int g, .ref tb, .int n] ∧ H p = some (.ins c.H dx []) ∧ ∀ H1, Bx p H H1 → H1 p = some (.ins c.H dx (hfl g tb n)) → Q .non H1
def spTin (c : Cc) : Sp := fun vs H Q _ => ∃ (G : Hp) (q dx : Addr) (k : Sk) (cs : List Int), vs = [.ref q, .ref k.dp, .ref k.hp, .ref k.sp] ∧ H q = some (.ins c.T dx []) ∧ SP c G H q k cs ∧ ∀ m H1, (∀ a o, H a = some o → a ≠ q → H1 a = some o) → ST c G H1 q { k with m := m } ⟨60, cs, fun _ => none⟩ → Q .non H1
theorem ir_ne {row : List Int} {ks : List Addr} (h : 0 < row.length) : HO.lst (row.map V.int) ≠ HO.lst (ks.map V.ref) := fun z => by
  match row, h, ks with
  | x :: r, _, [] => cases z
  | x :: r, _, k :: ks => cases z
section
variable {P : Program} {w : World} {K : PySem.W.Frag} {mg : Str → Option Value} {base : Heap} {c : Cc} {CN CO CE Pw : Addr}
theorem ok_hin {f : Addr} {fd : FuncData} (F : Fun K "__init__" "Head.__init__" sHin f fd) (TH : TxH mg K c.H) : FnOk P w K mg base CX0 1 f fd ["self", "generation", "table", "blocks"] (spHin c) := by
  refine F.ok scHin (fun vs H Q E h => ?_) (fun cdv A outer s H vs Q E hr h => ?_)
  · obtain ⟨p, tb, dx, g, n, rfl, _⟩ := h
    rfl
  · obtain ⟨p, tb, dx, g, n, rfl, ho, q⟩ := h
    refine ⟨_, (pss_cons (ps_fld (pv 0) (pv 1) rfl)
      (pss_cons (ps_fld (pv 0) (pv 2) rfl)
      (pss_one (ps_fld (pv 0) (pv 3) rfl)))), ?_⟩
    refine q_fld (ev_var rfl) (ev_var rfl) ho TH.cl TH.ng (by show 0 < 1000; decide) fun H1 e1 => ?_
    refine q_fld (ev_var rfl) (ev_var rfl) upd_same TH.cl TH.nt (by show 1 < 1000; decide) fun H2 e2 => ?_
    refine s_fld (ev_var rfl) (ev_var rfl) upd_same TH.cl TH.nb (by show 2 < 1000; decide) fun H3 e3 => ?_
    exact q _ (((Bx.of e1).up.trans (Bx.of e2)).up.trans (Bx.of e3)).up upd_same
theorem ok_tin {f : Addr} {fd : FuncData} (F : Fun K "__init__" "Store.__init__" sInit f fd) (T : Txt mg) (TT : TxT mg K c.T) (TH : TxH mg K c.H) : FnOk P w K mg base CX0 1 f fd ["self", "disk", "head", "space"] (spTin c) := by
  obtain ⟨_, gADD⟩ := T.gADD
  refine F.ok scInit (fun vs H Q E h => ?_) (fun cdv A outer s H vs Q E hr h => ?_)
  · obtain ⟨G, q, dx, k, cs, rfl, _⟩ := h
    rfl
  · obtain ⟨G, q, dx, k, cs, rfl, ho, S, qq⟩ := h
    refine ⟨_, (pss_cons (ps_fld (pv 0) (pv 1) rfl)
      (pss_cons (ps_fld (pv 0) (pv 2) rfl)
      (pss_cons (ps_fld (pv 0) (pv 3) rfl)
      (pss_cons (ps_fld (pv 0) (pe_fld (pv 2) rfl) rfl)
      (pss_cons (ps_fld (pv 0) (pe_glob (v := .int 60) rfl gADD ⟨_, rfl⟩) rfl)
      (pss_one (ps_fld (pv 0) pe_dnewK rfl))))))), ?_⟩
    obtain ⟨dh, hh⟩ := S.h
    have hh0 := S.dk.g _ _ hh
    have hpq : k.hp ≠ q := fun z => by rw [z, S.gq] at hh; cases hh
    have U : ∀ {A B : Hp} {o : HO}, (∀ a u, H a = some u → a ≠ q → A a = some u) → Ex A B → ∀ a u, H a = some u → a ≠ q → (upd B q o) a = some u := fun h e a u ha hn => by
      rw [upd_ne hn]
      exact e _ _ (h a u ha hn)
    refine q_fld (ev_var rfl) (ev_var rfl) ho TT.cl TT.nd (by show 0 < 1000; decide) fun H1 e1 => ?_
    have u1 := U (o := .ins c.T dx (putF "disk" (.ref k.dp) [])) (fun a u h _ => h) e1
    refine q_fld (ev_var rfl) (ev_var rfl) upd_same TT.cl TT.nh (by show 1 < 1000; decide) fun H2 e2 => ?_
    have u2 := U (o := .ins c.T dx (putF "head" (.ref k.hp) (putF "disk" (.ref k.dp) []))) u1 e2
    refine q_fld (ev_var rfl) (ev_var rfl) upd_same TT.cl TT.ns (by show 2 < 1000; decide) fun H3 e3 => ?_
    have u3 := U (o := .ins c.T dx (putF "space" (.ref k.sp) (putF "head" (.ref k.hp) (putF "disk" (.ref k.dp) [])))) u2 e3
    refine q_fld (ev_fld (ev_var rfl) (u3 _ _ hh0 hpq) TH.cl TH.nt rfl) (ev_var rfl) upd_same TT.cl TT.nt (by show 3 < 1000; decide) fun H4 e4 => ?_
    have u4 := U (o := .ins c.T dx (putF "table" (.ref k.tb) (putF "space" (.ref k.sp) (putF "head" (.ref k.hp) (putF "disk" (.ref k.dp) []))))) u3 e4
    refine q_fld ev_c (ev_var rfl) upd_same TT.cl TT.nr (by show 4 < 1000; decide) fun H5 e5 => ?_
    have u5 := U (o := .ins c.T dx (putF "reserve" (.int 60) (putF "table" (.ref k.tb) (putF "space" (.ref k.sp) (putF "head" (.ref k.hp) (putF "disk" (.ref k.dp) [])))))) u4 e5
    have o5 : (upd H5 q (.ins c.T dx (putF "reserve" (.int 60) (putF "table" (.ref k.tb) (putF "space" (.ref k.sp) (putF "head" (.ref k.hp) (putF "disk" (.ref k.dp) []))))))) q = some (.ins c.T dx (putF "reserve" (.int 60) (putF "table" (.ref k.tb) (putF "space" (.ref k.sp) (putF "head" (.ref k.hp) (putF "disk" (.ref k.dp) [])))))) := upd_same
    generalize upd H5 q (.ins c.T dx (putF "reserve" (.int 60) (putF "table" (.ref k.tb) (putF "space" (.ref k.sp) (putF "head" (.ref k.hp) (putF "disk" (.ref k.dp) [])))))) = H6 at u5 o5
    refine fun m hm => ?_
    have eN := Ex.new (o := .dK []) hm
    have hmm : (upd H6 m (.dK [])) m = some (.dK []) := upd_same
    have mq : m ≠ q := fun z => by rw [z, o5] at hm; cases hm
    have o7 := eN _ _ o5
    refine ⟨_, rfl, q, c.T, dx, _, rfl, o7, TT.cl, TT.nm, by show 5 < 1000; decide, ?_⟩
    have u7 := U (o := .ins c.T dx (sfl k.dp k.hp k.sp k.tb 60 m)) u5 eN
    have m7 : (upd (upd H6 m (.dK [])) q (.ins c.T dx (sfl k.dp k.hp k.sp k.tb 60 m))) m = some (.dK []) := by rw [upd_ne mq]; exact hmm
    have q7 : (upd (upd H6 m (.dK [])) q (.ins c.T dx (sfl k.dp k.hp k.sp k.tb 60 m))) q = some (.ins c.T dx (sfl k.dp k.hp k.sp k.tb 60 m)) := upd_same
    show Q .non (upd (upd H6 m (.dK [])) q (.ins c.T dx (sfl k.dp k.hp k.sp k.tb 60 m)))
    generalize upd (upd H6 m (.dK [])) q (.ins c.T dx (sfl k.dp k.hp k.sp k.tb 60 m)) = H7 at u7 m7 q7
    have fr : ∀ a, a ≠ q → H6 a = none → H a = none := fun a n h => by
      cases hx : H a with
      | none => rfl
      | some o =>
        rw [u5 a o hx n] at h
        cases h
    have m0 : H m = none := fr m mq hm
    obtain ⟨a1, a2, a3, a4⟩ := S.dk.al
    have hc := S.c
    have b7 : Bx q H H7 := fun a o n h => u7 a o h n
    refine qq m H7 (fun a o h n => u7 a o h n) ⟨dk_bx S.dk S.gq S.q1 b7, ⟨dx, q7⟩, S.gq, S.h, S.s, u7 _ _ S.c S.qc.symm, S.gc, S.hh, S.lc, S.lh, ⟨[], m7, fun i => .inl ⟨rfl, rfl⟩, [], rfl, List.nodup_nil, fun i => ⟨fun h => (by cases h), fun h => absurd rfl h.2⟩⟩, fresh_back S.dk.g m0, S.q1, S.c1, ⟨fun z => a1 (by rw [← z]; exact m0), fun z => a2 (by rw [← z]; exact m0), fun z => a3 (by rw [← z]; exact m0), fun z => a4 (by rw [← z]; exact m0)⟩, S.qc, mq.symm, fun z => by
      have z' : k.cl = m := z
      rw [← z', hc] at m0
      cases m0⟩
end
/-! ### between two turns of the law -/
theorem nodup_sub {l m : List Nat} (hl : l.Nodup) (hm : m.Nodup) (h : ∀ x ∈ l, x ∈ m) : l.length ≤ m.length := by
  have hp : l.Perm (m.filter fun x => decide (x ∈ l)) := (List.perm_ext_iff_of_nodup hl (List.Pairwise.filter _ hm)).mpr fun a => by
    rw [List.mem_filter, decide_eq_true_eq]
    exact ⟨fun ha => ⟨h a ha, ha⟩, fun ha => ha.2⟩
  rw [hp.length_eq]
  exact List.length_filter_le _ _
theorem memL_nodup (k : Sk) (d : Sd) : (memL k d).Nodup := List.Pairwise.filter _ List.nodup_range
theorem memL_mem {k : Sk} {d : Sd} {i : Nat} : i ∈ memL k d ↔ i < k.n ∧ d.mem i ≠ none := by
  unfold memL
  rw [List.mem_filter, List.mem_range, Option.isSome_iff_ne_none]
theorem memL_put {k : Sk} {d d' : Sd} {i : Nat} {o : Option (List Int)} (h : d'.mem = setM d.mem i o) : (memL k d').length ≤ (memL k d).length + 1 := by
  have hs : ∀ x ∈ memL k d', x = i ∨ x ∈ memL k d := fun x hx => by
    have hx := memL_mem.mp hx
    rw [h] at hx
    unfold setM at hx
    by_cases e : x = i
    · exact .inl e
    · rw [if_neg e] at hx
      exact .inr (memL_mem.mpr hx)
  by_cases hi : i ∈ memL k d
  · have := nodup_sub (memL_nodup k d') (memL_nodup k d) fun x hx => (hs x hx).elim (fun e => e ▸ hi) id
    omega
  · have := nodup_sub (memL_nodup k d') (m := i :: memL k d) (List.nodup_cons.mpr ⟨hi, memL_nodup k d⟩) fun x hx => (hs x hx).elim (fun e => e ▸ List.mem_cons_self) (List.mem_cons_of_mem _)
    exact this
theorem memL_same {k : Sk} {d d' : Sd} {i : Nat} (h : d'.mem = setM d.mem i none ∨ d'.mem = d.mem) : (memL k d').length ≤ (memL k d).length := nodup_sub (memL_nodup k d') (memL_nodup k d) fun x hx => by
  have hx := memL_mem.mp hx
  rcases h with h | h
  · rw [h] at hx
    unfold setM at hx
    by_cases e : x = i
    · rw [if_pos e] at hx
      exact absurd rfl hx.2
    · rw [if_neg e] at hx
      exact memL_mem.mpr hx
  · rw [h] at hx
    exact memL_mem.mpr hx
theorem ST.upd {c : Cc} {G H H1 : Hp} {q x : Addr} {k : Sk} {d : Sd} (s : ST c G H q k d) (gx : G x = none) (nq : x ≠ q) (nc : x ≠ k.cl) (nm : x ≠ k.m) (nd : x ≠ k.dp ∧ x ≠ k.ka ∧ x ≠ k.sa ∧ x ≠ k.wa) (b : Bx x H H1) : ST c G H1 q k d :=
  ⟨dk_bx s.dk gx nd b, let ⟨dx, h⟩ := s.o; ⟨dx, b _ _ nq.symm h⟩, s.gq, s.h, s.s, b _ _ nc.symm s.c, s.gc, s.hh, s.lc, s.lh, let ⟨kvs, h, m⟩ := s.mm; ⟨kvs, b _ _ nm.symm h, m⟩, s.gm, s.q1, s.c1, s.m1, s.qc, s.qm, s.cm⟩
theorem ints_ne {c : Cc} {G H : Hp} {q x : Addr} {k : Sk} {d : Sd} {ws : List Int} (s : ST c G H q k d) (hx : H x = some (.lst (ws.map V.int))) (hl : 0 < ws.length) : x ≠ q ∧ x ≠ k.m ∧ x ≠ k.dp ∧ x ≠ k.ka ∧ x ≠ k.sa ∧ x ≠ k.wa := by
  obtain ⟨dx, ho⟩ := s.o
  obtain ⟨kvs, hm, _⟩ := s.mm
  obtain ⟨dd, hd⟩ := s.dk.o
  obtain ⟨ks, hk, _⟩ := s.dk.k
  obtain ⟨ss, hs, _⟩ := s.dk.s
  obtain ⟨ts, hw, _⟩ := s.dk.w
  exact ⟨ne_of hx ho (by intro z; cases z), ne_of hx hm (by intro z; cases z), ne_of hx hd (by intro z; cases z), ne_of hx hk (ir_ne hl), ne_of hx hs (ir_ne hl), ne_of hx hw (ir_ne hl)⟩
theorem dict_ne {c : Cc} {G H : Hp} {q x : Addr} {k : Sk} {d : Sd} {kvs : List (Key × V)} (s : ST c G H q k d) (hx : H x = some (.dK kvs)) : x ≠ q ∧ x ≠ k.cl ∧ x ≠ k.dp ∧ x ≠ k.ka ∧ x ≠ k.sa ∧ x ≠ k.wa := by
  obtain ⟨dx, ho⟩ := s.o
  obtain ⟨dd, hd⟩ := s.dk.o
  obtain ⟨ks, hk, _⟩ := s.dk.k
  obtain ⟨ss, hs, _⟩ := s.dk.s
  obtain ⟨ts, hw, _⟩ := s.dk.w
  exact ⟨ne_of hx ho (by intro z; cases z), ne_of hx s.c (by intro z; cases z), ne_of hx hd (by intro z; cases z), ne_of hx hk (by intro z; cases z), ne_of hx hs (by intro z; cases z), ne_of hx hw (by intro z; cases z)⟩
theorem upd_ST {c : Cc} {G H : Hp} {q x : Addr} {k : Sk} {d : Sd} {o : HO} (s : ST c G H q k d) (gx : G x = none) (nq : x ≠ q) (nc : x ≠ k.cl) (nm : x ≠ k.m) (nd : x ≠ k.dp ∧ x ≠ k.ka ∧ x ≠ k.sa ∧ x ≠ k.wa) : ST c G (L2.upd H x o) q k d := s.upd gx nq nc nm nd (Bx.of (Ex.refl _)).up
end NT

set_option Elab.async false
set_option linter.all false
set_option maxRecDepth 100000
set_option maxHeartbeats 4000000
namespace NN
open PySem PySem.Spec PyProof.Rows L2 Evl LK LT LG LS LQ LX LN StX
structure Txt (mg : Str → Option Value) (K : PySem.W.Frag) (aK : Addr) : Prop where
  len : mg "len" = none
  range : mg "range" = none
  all : mg "all" = none
  any : mg "any" = none
  tuple : mg "tuple" = none
  list : mg "list" = none
  isinstance : mg "isinstance" = none
  gLEAF : ∃ t, mg "LEAF" = some (.int 1 t)
  gINNER : ∃ t, mg "INNER" = some (.int 2 t)
  gLEAF_ITEMS : ∃ t, mg "LEAF_ITEMS" = some (.int 4 t)
  gINNER_ITEMS : ∃ t, mg "INNER_ITEMS" = some (.int 5 t)
  gLEAF_ITEM_WORDS : ∃ t, mg "LEAF_ITEM_WORDS" = some (.int 7 t)
  gINNER_ITEM_WORDS : ∃ t, mg "INNER_ITEM_WORDS" = some (.int 5 t)
  gKEY_WORDS : ∃ t, mg "KEY_WORDS" = some (.int 3 t)
  gFIRST_ITEM : ∃ t, mg "FIRST_ITEM" = some (.int 4 t)
  gDATA_KEY : ∃ t, mg "DATA_KEY" = some (.int 3 t)
  gBLOCK_WORDS : ∃ t, mg "BLOCK_WORDS" = some (.int 32 t)
  gFIRST_BLOCK : ∃ t, mg "FIRST_BLOCK" = some (.int 5 t)
  gMAX_BLOCKS : ∃ t, mg "MAX_BLOCKS" = some (.int 256 t)
  max : mg "max" = none
  gNODE_KEYS : mg "NODE_KEYS" = some (.ref aK)
  keys : ∀ H, SqT K H aK [.int 4, .int 6]
def top (i : Nat) : Stmt := PySem.Challenge.pw_laminae_k14_whole_tree_stays_balanced.main.body.getD i (.Pass ⟨0, 0, 0, 0⟩)
abbrev sMost : Stmt := top 34
theorem scMost : FnScope ["kind"] ["kind"] (defScope sMost) := ⟨rfl, rfl, rfl, by decide +kernel, rfl, by decide +kernel, by decide +kernel⟩
abbrev sIw : Stmt := top 35
theorem scIw : FnScope ["kind"] ["kind"] (defScope sIw) := ⟨rfl, rfl, rfl, by decide +kernel, rfl, by decide +kernel, by decide +kernel⟩
abbrev sPtr : Stmt := top 36
theorem scPtr : FnScope ["pointer", "number", "birth"] ["pointer"] (defScope sPtr) := ⟨rfl, rfl, rfl, by decide +kernel, rfl, by decide +kernel, by decide +kernel⟩
abbrev sAsc : Stmt := top 37
theorem scAsc : FnScope ["items"] ["items"] (defScope sAsc) := ⟨rfl, rfl, rfl, by decide +kernel, rfl, by decide +kernel, by decide +kernel⟩
abbrev sTo : Stmt := top 38
theorem scTo : FnScope ["kind", "items", "pointer", "block", "key", "content"] ["kind", "items", "pointer"] (defScope sTo) := ⟨rfl, rfl, rfl, by decide +kernel, rfl, by decide +kernel, by decide +kernel⟩
abbrev sRead : Stmt := top 39
theorem scRead : FnScope ["words"] ["words"] (defScope sRead) := ⟨rfl, rfl, rfl, by decide +kernel, rfl, by decide +kernel, by decide +kernel⟩
abbrev sFrom : Stmt := top 40
theorem scFrom : FnScope ["block", "kind", "many", "size", "end", "items", "start"] ["block"] (defScope sFrom) := ⟨rfl, rfl, rfl, by decide +kernel, rfl, by decide +kernel, by decide +kernel⟩
abbrev sOwn : Stmt := top 41
theorem scOwn : FnScope ["block"] ["block"] (defScope sOwn) := ⟨rfl, rfl, rfl, by decide +kernel, rfl, by decide +kernel, by decide +kernel⟩
abbrev sPtrs : Stmt := top 42
theorem scPtrs : FnScope ["block", "kind", "items", "_", "pointer", "key", "value"] ["block"] (defScope sPtrs) := ⟨rfl, rfl, rfl, by decide +kernel, rfl, by decide +kernel, by decide +kernel⟩
abbrev sSplit : Stmt := top 43
theorem scSplit : FnScope ["items", "most", "half"] ["items", "most"] (defScope sSplit) := ⟨rfl, rfl, rfl, by decide +kernel, rfl, by decide +kernel, by decide +kernel⟩
abbrev sPlace : Stmt := top 44
theorem scPlace : FnScope ["items", "key", "item"] ["items", "key"] (defScope sPlace) := ⟨rfl, rfl, rfl, by decide +kernel, rfl, by decide +kernel, by decide +kernel⟩
abbrev sChild : Stmt := top 45
theorem scChild : FnScope ["items", "key", "item"] ["items", "key"] (defScope sChild) := ⟨rfl, rfl, rfl, by decide +kernel, rfl, by decide +kernel, by decide +kernel⟩
/-! ### items: pairs of two tuples of ints -/
abbrev R := List Int × List Int
def rd (r : R) : PyData := .tuple [.tuple (r.1.map PyData.int), .tuple (r.2.map PyData.int)]
inductive Rows (K : PySem.W.Frag) (H : Hp) : List V → List R → Prop
  | nil : Rows K H [] []
  | cons {t k v : Addr} {r : R} {xs : List V} {rs : List R} : H t = some (.tup [.ref k, .ref v]) → H k = some (.tup (r.1.map V.int)) → H v = some (.tup (r.2.map V.int)) → Rows K H xs rs → Rows K H (.ref t :: xs) (r :: rs)
/-! ### heaps in which a list may change, but nothing else -/
def TEx (H H' : Hp) : Prop := ∀ (a : Addr) (o : HO), H a = some o → (∀ l, o ≠ .lst l) → H' a = some o
theorem TEx.of {H H' : Hp} (e : Ex H H') : TEx H H' := fun a o h _ => e a o h
theorem TEx.trans {H H' H2 : Hp} (e : TEx H H') (f : TEx H' H2) : TEx H H2 := fun a o h n => f a o (e a o h n) n
theorem TEx.upd {H : Hp} {l : Addr} {xs ys : List V} (h : H l = some (.lst xs)) : TEx H (upd H l (.lst ys)) := fun a o ha n => by
  by_cases e : a = l
  · rw [e, h] at ha
    cases ha
    exact absurd rfl (n xs)
  · rw [upd_ne e]
    exact ha
section
variable {K : PySem.W.Frag} {H H' : Hp}
theorem TEx.t {a : Addr} {xs : List V} (e : TEx H H') (h : SqT K H a xs) : SqT K H' a xs := by
  rcases h with (h | ⟨o, h⟩) | h
  · exact .inl (.inl (e _ _ h (fun l z => by cases z)))
  · exact .inl (.inr ⟨o, e _ _ h (fun l z => by cases z)⟩)
  · exact .inr h
theorem TEx.tt {a : Addr} {xs : List V} (e : TEx H H') (h : H a = some (.tup xs)) : H' a = some (.tup xs) := e _ _ h (fun l z => by cases z)
theorem Rows.tmono (e : TEx H H') : ∀ {xs : List V} {rs : List R}, Rows K H xs rs → Rows K H' xs rs
  | _, _, .nil => .nil
  | _, _, .cons h1 h2 h4 h3 => .cons (e.tt h1) (e.tt h2) (e.tt h4) (h3.tmono e)
theorem Rows.mono (e : Ex H H') {xs : List V} {rs : List R} (h : Rows K H xs rs) : Rows K H' xs rs := h.tmono (.of e)
theorem Rows.len : ∀ {xs : List V} {rs : List R}, Rows K H xs rs → xs.length = rs.length
  | _, _, .nil => rfl
  | _, _, .cons _ _ _ h3 => congrArg (· + 1) h3.len
theorem Rows.at : ∀ {xs : List V} {rs : List R} {i : Nat} {x : V}, Rows K H xs rs → xs[i]? = some x → ∃ (t k v : Addr) (r : R), x = .ref t ∧ rs[i]? = some r ∧ SqT K H t [.ref k, .ref v] ∧ SqT K H k (r.1.map V.int) ∧ SqT K H v (r.2.map V.int)
  | _, _, _, _, .nil, h => by simp at h
  | _, _, 0, _, .cons (t := t) (k := k) (v := v) (r := r) h1 h2 h4 h3, h => ⟨t, k, v, r, (Option.some.inj h).symm, rfl, st_of h1, st_of h2, st_of h4⟩
  | _, _, i + 1, _, .cons h1 h2 h4 h3, h => h3.at (i := i) h
theorem Rows.atT : ∀ {xs : List V} {rs : List R} {i : Nat} {x : V}, Rows K H xs rs → xs[i]? = some x → ∃ (t k v : Addr) (r : R), x = .ref t ∧ rs[i]? = some r ∧ H t = some (.tup [.ref k, .ref v]) ∧ H k = some (.tup (r.1.map V.int)) ∧ H v = some (.tup (r.2.map V.int))
  | _, _, _, _, .nil, h => by simp at h
  | _, _, 0, _, .cons (t := t) (k := k) (v := v) (r := r) h1 h2 h4 h3, h => ⟨t, k, v, r, (Option.some.inj h).symm, rfl, h1, h2, h4⟩
  | _, _, i + 1, _, .cons h1 h2 h4 h3, h => h3.atT (i := i) h
theorem Rows.snoc {t k v : Addr} {r : R} (h1 : H t = some (.tup [.ref k, .ref v])) (h2 : H k = some (.tup (r.1.map V.int))) (h4 : H v = some (.tup (r.2.map V.int))) : ∀ {xs : List V} {rs : List R}, Rows K H xs rs → Rows K H (xs ++ [.ref t]) (rs ++ [r])
  | _, _, .nil => .cons h1 h2 h4 .nil
  | _, _, .cons a b d c => .cons a b d (c.snoc h1 h2 h4)
theorem Rows.dp : ∀ {xs : List V} {rs : List R}, Rows K H xs rs → DpAll K H xs (rs.map rd)
  | _, _, .nil => .nil
  | _, _, .cons (r := r) h1 h2 h4 h3 => .cons (.tup (st_of h1) (.cons (.tup (st_of h2) (dp_ints r.1)) (.cons (.tup (st_of h4) (dp_ints r.2)) .nil))) h3.dp
end
theorem sh_rd (r : R) : Sh 2 (rd r) := sh_tup fun d hd => by
  rcases List.mem_cons.mp hd with e | hd
  · rw [e]
    exact sh_tup (sh_ints _)
  · rcases List.mem_cons.mp hd with e | hd
    · rw [e]
      exact sh_tup (sh_ints _)
    · cases hd
theorem sh_rds (rs : List R) : Sh 3 (.list (rs.map rd)) := sh_lst fun d hd => by
  obtain ⟨r, _, rfl⟩ := List.mem_map.mp hd
  exact sh_rd r
theorem getD_of {α : Type} {l : List α} {i : Nat} {x d : α} (h : l[i]? = some x) : l.getD i d = x := by
  rw [List.getD_eq_getElem?_getD, h]
  rfl
def key (rs : List R) (i : Nat) : List Int := (rs.getD i ([], [])).1
def asc (rs : List R) : Bool := allF (rs.length - 1) fun i => HT.lexLt (key rs i) (key rs (i + 1))
def most (kind : Int) : Int := if kind = 1 then 4 else 5
def size (kind : Int) : Int := if kind = 1 then 7 else 5
def ptr (n b : Int) : Bool := (decide (5 ≤ n) && decide (n < 256)) && decide (1 ≤ b)
theorem el_is {te : TE} {σ : L2.St} {H : Hp} {xs ys : List V} (h : EvL te σ H xs) (e : xs = ys) : EvL te σ H ys := by
  rw [← e]
  exact h
theorem cut_to (xs : List V) (n : Nat) : cutV xs none (some (n : Int)) = xs.take n := by
  unfold cutV
  rw [HT.sIx_nat, HT.sIx_none]
  show (xs.drop 0).take _ = _
  rw [List.drop_zero, Nat.sub_zero, List.take_eq_take_iff]
  omega
theorem cut_from (xs : List V) (n : Nat) : cutV xs (some (n : Int)) none = xs.drop n := by
  unfold cutV
  rw [HT.sIx_nat, HT.sIx_none]
  show (xs.drop (min n xs.length)).take _ = _
  rw [List.take_of_length_le (by rw [List.length_drop]; omega)]
  by_cases h : n ≤ xs.length
  · rw [Nat.min_eq_left h]
  · rw [Nat.min_eq_right (by omega), List.drop_length, List.drop_eq_nil_of_le (by omega)]
/-- a new pair of two new tuples -/
theorem eu_pair {ta tb : TE} {σ : L2.St} {H : Hp} {xs ys : List V} (ha : EvU ta σ H xs) (hb : EvU tb σ H ys) : ∀ H1, Ex H H1 → ∀ Q : VK, (∀ t k v H2, H1 t = none → H1 k = none → H1 v = none → Ex H1 H2 → H2 t = some (.tup [.ref k, .ref v]) → H2 k = some (.tup xs) → H2 v = some (.tup ys) → Q (.ref t) H2) → tTup (tCons ta (tCons tb tNil)) σ H1 Q := fun H1 e Q q =>
  ha H1 e _ fun k H2 hk e2 h2 => hb H2 (e.trans e2) _ fun v H3 hv e3 h3 => ⟨sz_of (by simp), fun t ht => q t k v _ (fresh_back e2 (fresh_back e3 ht)) hk (fresh_back e2 hv) ((e2.trans e3).trans (Ex.new ht)) upd_same ((Ex.new ht) _ _ (e3 _ _ h2)) ((Ex.new ht) _ _ h3)⟩
/-! ### the promises -/
def spMost : Sp := fun vs H Q _ => ∃ k : Int, vs = [.int k] ∧ (k = 1 ∨ k = 2) ∧ RetV (.int (most k)) H Q
def spIw : Sp := fun vs H Q _ => ∃ k : Int, vs = [.int k] ∧ RetV (.int (size k)) H Q
def spPtr (K : PySem.W.Frag) : Sp := fun vs H Q _ => ∃ (t : Addr) (n b : Int), vs = [.ref t] ∧ SqT K H t [.int n, .int b] ∧ RetV (.bl (ptr n b)) H Q
def spAsc (K : PySem.W.Frag) (Pt : Addr) : Sp := fun vs H Q _ => ∃ (a : Addr) (xs : List V) (rs : List R), vs = [.ref a] ∧ SqL K H a xs ∧ Rows K H xs rs ∧ rs.length ≤ 100 ∧ Tab H Pt ∧ RetV (.bl (asc rs)) H Q
def spRead (K : PySem.W.Frag) : Sp := fun vs H Q _ => ∃ (a : Addr) (ns : List Int), vs = [.ref a] ∧ SqL K H a (ns.map V.int) ∧ ns.length ≤ 1000 ∧ ∀ (t k v : Addr) (H' : Hp), H t = none → H k = none → H v = none → Ex H H' → H' t = some (.tup [.ref k, .ref v]) → H' k = some (.tup ((ns.take 3).map V.int)) → H' v = some (.tup ((ns.drop 3).map V.int)) → Q (.ref t) H'
def spOwn (K : PySem.W.Frag) : Sp := fun vs H Q _ => ∃ (a : Addr) (k n p b : Int) (ns : List Int), vs = [.ref a] ∧ SqL K H a ((k :: n :: p :: b :: ns).map V.int) ∧ ∀ (t : Addr) (H' : Hp), H t = none → Ex H H' → H' t = some (.tup [.int p, .int b]) → Q (.ref t) H'
section
variable {P : Program} {w : World} {K : PySem.W.Frag} {mg : Str → Option Value} {base : Heap} {aK : Addr}
theorem ok_most {f : Addr} {fd : FuncData} (F : Fun K "most_items" "most_items" sMost f fd) (T : Txt mg K aK) : FnOk P w K mg base CX0 1 f fd ["kind"] spMost := by
  refine F.ok scMost (fun vs H Q E h => ?_) (fun cdv A outer s H vs Q E hr h => ?_)
  · obtain ⟨a, rfl, _⟩ := h
    rfl
  · obtain ⟨k, rfl, hk, q⟩ := h
    obtain ⟨_, gLEAF⟩ := T.gLEAF
    obtain ⟨_, gINNER⟩ := T.gINNER
    obtain ⟨_, gLEAF_ITEMS⟩ := T.gLEAF_ITEMS
    obtain ⟨_, gINNER_ITEMS⟩ := T.gINNER_ITEMS
    refine ⟨_, (pss_cons (ps_if (pt_cmpR op_eq (pv 0) (pe_glob (v := .int 1) rfl gLEAF ⟨_, rfl⟩) (nomark _)) (pss_one (ps_ret (pe_glob (v := .int 4) rfl gLEAF_ITEMS ⟨_, rfl⟩))) pss_nil)
      (pss_cons (ps_if (pt_cmpR op_eq (pv 0) (pe_glob (v := .int 2) rfl gINNER ⟨_, rfl⟩) (nomark _)) (pss_one (ps_ret (pe_glob (v := .int 5) rfl gINNER_ITEMS ⟨_, rfl⟩))) pss_nil)
      (pss_one ps_never))), ?_⟩
    rcases hk with rfl | rfl
    · exact q_when (b := true) (et_test (ev_op (ev_var rfl) ev_c (rv_eq rfl))) (fun _ H1 e1 => s_ret ev_c fun H2 e2 => q H2 (e1.trans e2)) (fun h => by cases h)
    · exact q_when (b := false) (et_test (ev_op (ev_var rfl) ev_c (rv_eq rfl))) (fun h => by cases h) (fun _ H1 e1 => q_when (b := true) (et_test (ev_op (ev_var rfl) ev_c (rv_eq rfl))) (fun _ H2 e2 => s_ret ev_c fun H3 e3 => q H3 ((e1.trans e2).trans e3)) (fun h => by cases h))
theorem ok_iwd {f : Addr} {fd : FuncData} (F : Fun K "item_words" "item_words" sIw f fd) (T : Txt mg K aK) : FnOk P w K mg base CX0 1 f fd ["kind"] spIw := by
  refine F.ok scIw (fun vs H Q E h => ?_) (fun cdv A outer s H vs Q E hr h => ?_)
  · obtain ⟨a, rfl, _⟩ := h
    rfl
  · obtain ⟨k, rfl, q⟩ := h
    obtain ⟨_, gLEAF⟩ := T.gLEAF
    obtain ⟨_, gLEAF_ITEM_WORDS⟩ := T.gLEAF_ITEM_WORDS
    obtain ⟨_, gINNER_ITEM_WORDS⟩ := T.gINNER_ITEM_WORDS
    refine ⟨_, (pss_one (ps_ret (pe_ifExp (pt_cmpR op_eq (pv 0) (pe_glob (v := .int 1) rfl gLEAF ⟨_, rfl⟩) (nomark _)) (pe_glob (v := .int 7) rfl gLEAF_ITEM_WORDS ⟨_, rfl⟩) (pe_glob (v := .int 5) rfl gINNER_ITEM_WORDS ⟨_, rfl⟩)))), ?_⟩
    refine s_ret (ev_if (et_test (ev_op (ev_var rfl) ev_c (rv_eq rfl))) (fun hb => ev_is ev_c ?_) (fun hb => ev_is ev_c ?_)) fun H1 e1 => q H1 e1
    · unfold size
      rw [if_pos (V.int.inj (of_decide_eq_true hb))]
    · unfold size
      rw [if_neg fun e => of_decide_eq_false hb (congrArg V.int e)]
theorem ok_ptr {f : Addr} {fd : FuncData} (F : Fun K "is_pointer" "is_pointer" sPtr f fd) (T : Txt mg K aK) : FnOk P w K mg base CX0 1 f fd ["pointer"] (spPtr K) := by
  refine F.ok scPtr (fun vs H Q E h => ?_) (fun cdv A outer s H vs Q E hr h => ?_)
  · obtain ⟨t, n, b, rfl, _⟩ := h
    rfl
  · obtain ⟨t, n, b, rfl, hS, q⟩ := h
    obtain ⟨_, gFIRST_BLOCK⟩ := T.gFIRST_BLOCK
    obtain ⟨_, gMAX_BLOCKS⟩ := T.gMAX_BLOCKS
    refine ⟨_, (pss_cons (ps_asg (pv 0) (pg_tup (by rfl) (pgs_cons (pg_name (i := 1) scPtr.nd rfl (Or.inl rfl)) (pgs_cons (pg_name (i := 2) scPtr.nd rfl (Or.inl rfl)) pgs_nil))))
      (pss_one (ps_ret (pe_and (pe_chain op_le op_lt (pe_glob (v := .int 5) rfl gFIRST_BLOCK ⟨_, rfl⟩) (pv 1) (pe_glob (v := .int 256) rfl gMAX_BLOCKS ⟨_, rfl⟩)) (pe_one (pe_cmpR op_ge (pv 2) pe_int (nomark _))))))), ?_⟩
    refine ⟨.ref t, rfl, t, _, rfl, hS, rfl, _, _, rfl, _, _, rfl, rfl, ?_⟩
    exact s_ret (ev_andV (ev_chain ev_c (ev_var rfl) ev_c) (fun _ => ev_op (ev_var rfl) ev_c rv_I0)) fun H1 e1 => q H1 e1
theorem ok_own {f : Addr} {fd : FuncData} (F : Fun K "own_pointer" "own_pointer" sOwn f fd) (T : Txt mg K aK) : FnOk P w K mg base CX0 1 f fd ["block"] (spOwn K) := by
  refine F.ok scOwn (fun vs H Q E h => ?_) (fun cdv A outer s H vs Q E hr h => ?_)
  · obtain ⟨a, k, n, p, b, ns, rfl, _⟩ := h
    rfl
  · obtain ⟨a, k, n, p, b, ns, rfl, hS, q⟩ := h
    refine ⟨_, (pss_one (ps_ret (pe_tup (pa_cons (pe_ix ix_list (pv 0) pe_int (fun _ _ => rfl)) (pa_cons (pe_ix ix_list (pv 0) pe_int (fun _ _ => rfl)) pa_nil))))), ?_⟩
    exact s_retU (eu_tup (ea_cons (ev_op (ev_var rfl) ev_c (rv_ixL hS (atI_nat (j := 2) rfl))) (ea_cons (ev_op (ev_var rfl) ev_c (rv_ixL hS (atI_nat (j := 3) rfl))) ea_nil)) (by simp)) fun t H1 ht e1 h1 => q t H1 ht e1 h1
theorem ok_asc {f c Pt : Addr} {fd : FuncData} (F : FunC K "are_ascending" "are_ascending" sAsc f fd c) (TB : LamX.TabB base mg c Pt) (T : Txt mg K aK) : FnOk P w K mg base CX0 1 f fd ["items"] (spAsc K Pt) := by
  refine F.ok scAsc (fun vs H Q E h => ?_) (fun A outer s H vs Q E hr h => ?_)
  · obtain ⟨a, xs, rs, rfl, _⟩ := h
    rfl
  · obtain ⟨a, xs, rs, rfl, hS, hR, hl, hT, q⟩ := h
    have hxl := hR.len
    refine ⟨_, (pss_one (ps_ret (pe_all hr (by rfl) T.all (by decide +kernel) TB rfl ⟨rfl, rfl, by decide +kernel, rfl, rfl, fun y hy e => cell_has ((by decide +kernel : ∀ y ∈ _, y.2 = NameKind.free → (defScope sAsc).names.lookup y.1 = some .cell) y hy e)⟩ (pe_callTy cr_range1 (by rfl) T.range (by decide +kernel) (pa_cons (pe_op op_sub (pe_callB call_len_seq (by rfl) T.len (by decide +kernel) (pa_cons (pv 0) pa_nil)) pe_int) pa_nil)) (fun _ => rfl)))), ?_⟩
    have hfin : allF ((xs.length : Int) - 1).toNat (fun i => HT.lexLt (key rs i) (key rs (i + 1))) = asc rs := by
      unfold asc
      rw [show ((xs.length : Int) - 1).toNat = rs.length - 1 by omega]
    refine s_ret (ev_is (ev_genR (n := (xs.length : Int) - 1) (f := fun i => HT.lexLt (key rs i) (key rs (i + 1))) (ev_op (ev_len (ev_var rfl) hS) ev_c rv_I0) ⟨by omega, by omega⟩ hT (fun H2 e2 i u hi hu => ?_)) (congrArg V.bl hfin)) fun H1 e1 => q H1 e1
    have hu0 : ∀ n, n = (A.deeper (envOfC "are_ascending" (defScope sAsc) s.heap.objs.size f (.ref c))).units → n + 8 < cLine := fun n e => by
      have := hr.un
      omega
    have h1 : i < xs.length := by omega
    have h2 : i + 1 < xs.length := by omega
    obtain ⟨t1, k1, v1, r1, ex1, er1, st1, sk1, _⟩ := hR.at (List.getElem?_eq_getElem h1)
    obtain ⟨t2, k2, v2, r2, ex2, er2, st2, sk2, _⟩ := hR.at (List.getElem?_eq_getElem h2)
    have g1 : key rs i = r1.1 := by
      unfold key
      rw [getD_of er1]
    have g2 : key rs (i + 1) = r2.1 := by
      unfold key
      rw [getD_of er2]
    rw [g1, g2]
    have a1 : xs[i]? = some (.ref t1) := by rw [List.getElem?_eq_getElem h1, ex1]
    have a2 : xs[i + 1]? = some (.ref t2) := by rw [List.getElem?_eq_getElem h2, ex2]
    refine qv_cmp (qr_ltT (hT.mono e2) (hu0 _ rfl) (ex_t e2 sk1) (ex_t e2 sk2)) (qv_ixT (hT.mono e2) (ex_t e2 st1) (atI_nat (j := 0) rfl) (qv_ixL (hT.mono e2) (ex_l e2 hS) (atI_nat a1) (by omega) (qv_cap (i := 0) rfl rfl rfl rfl) (qv_x rfl rfl hu)) qv_int)
      (qv_ixT (hT.mono e2) (ex_t e2 st2) (atI_nat (j := 0) rfl) (qv_ixL (i := ((i + 1 : Nat) : Int)) (hT.mono e2) (ex_l e2 hS) (atI_nat a2) (by omega) (qv_cap (i := 0) rfl rfl rfl rfl) (qv_op qr_add (qv_x rfl rfl hu) qv_int)) qv_int) rfl
theorem ok_read {f : Addr} {fd : FuncData} (F : Fun K "read_item" "read_item" sRead f fd) (T : Txt mg K aK) : FnOk P w K mg base CX0 1 f fd ["words"] (spRead K) := by
  refine F.ok scRead (fun vs H Q E h => ?_) (fun cdv A outer s H vs Q E hr h => ?_)
  · obtain ⟨a, ns, rfl, _⟩ := h
    rfl
  · obtain ⟨a, ns, rfl, hS, hl, q⟩ := h
    obtain ⟨_, gKEY_WORDS⟩ := T.gKEY_WORDS
    refine ⟨_, (pss_one (ps_ret (pe_tup (pa_cons (pe_callTy call_tuple_of (by rfl) T.tuple (by decide +kernel) (pa_cons (pe_slice sl_list (pv 0) po_none (po_some (pe_glob (v := .int 3) rfl gKEY_WORDS ⟨_, rfl⟩))) pa_nil)) (pa_cons (pe_callTy call_tuple_of (by rfl) T.tuple (by decide +kernel) (pa_cons (pe_slice sl_list (pv 0) (po_some (pe_glob (v := .int 3) rfl gKEY_WORDS ⟨_, rfl⟩)) po_none) pa_nil)) pa_nil))))), ?_⟩
    have s1 : EvL _ _ H ((ns.take 3).map V.int) := el_is (el_sl (σ := [some (.ref a)]) (ev_var (i := 0) rfl) eo_none (eo_some (ev_c (v := .int 3))) hS) ((cut_to _ 3).trans List.map_take.symm)
    have s2 : EvL _ _ H ((ns.drop 3).map V.int) := el_is (el_sl (σ := [some (.ref a)]) (ev_var (i := 0) rfl) (eo_some (ev_c (v := .int 3))) eo_none hS) ((cut_from _ 3).trans List.map_drop.symm)
    refine eu_pair (eu_tupL s1) (eu_tupL s2) H (Ex.refl H) _ fun t k v H1 ht hk hv e1 h1 h2 h3 => q t k v H1 ht hk hv e1 h1 h2 h3
end

end NN

set_option Elab.async false
set_option linter.all false
set_option maxRecDepth 100000
set_option maxHeartbeats 4000000
namespace NN
open PySem PySem.Spec PyProof.Rows L2 Evl LK LT LG LS LQ LX LN StX
/-! ### blocks -/
def body (rs : List R) : List Int := rs.flatMap fun r => r.1 ++ r.2
def blk (k : Int) (rs : List R) (n b : Int) : List Int := k :: (rs.length : Int) :: n :: b :: (body rs ++ List.replicate (28 - (body rs).length) 0)
def vsz (k : Int) : Nat := if k = 1 then 4 else 2
def Wf (k : Int) (rs : List R) : Prop := ∀ r ∈ rs, r.1.length = 3 ∧ r.2.length = vsz k
theorem body_len {k : Int} : ∀ {rs : List R}, Wf k rs → (body rs).length = rs.length * (3 + vsz k)
  | [], _ => by simp [body]
  | r :: rs, h => by
    obtain ⟨h1, h2⟩ := h r List.mem_cons_self
    have ih := body_len (k := k) (rs := rs) fun x hx => h x (List.mem_cons_of_mem _ hx)
    have e : body (r :: rs) = (r.1 ++ r.2) ++ body rs := rfl
    rw [e, List.length_append, List.length_append, ih, h1, h2, List.length_cons, Nat.succ_mul]
    omega
theorem body_fits {k : Int} {rs : List R} (hk : k = 1 ∨ k = 2) (h : Wf k rs) (hm : (rs.length : Int) ≤ most k) : (body rs).length ≤ 28 := by
  rw [body_len h]
  rcases hk with rfl | rfl
  · have e : most 1 = 4 := rfl
    have e2 : vsz 1 = 4 := rfl
    rw [e] at hm
    rw [e2]
    omega
  · have e : most 2 = 5 := rfl
    have e2 : vsz 2 = 2 := rfl
    rw [e] at hm
    rw [e2]
    omega
theorem body_snoc (rs : List R) (r : R) : body (rs ++ [r]) = body rs ++ (r.1 ++ r.2) := by
  unfold body
  rw [List.flatMap_append]
  simp
section
variable {K : PySem.W.Frag} {σ : L2.St} {H : Hp} {ta tb te to : TE} {D : Ends} {tz : TS}
theorem ea_star {t : TA} {p : Addr} {xs ys : List V} (h : Ev te σ H (.ref p)) (hp : SqT K H p xs) (hr : EvA t σ H ys) : EvA (tStar K te t) σ H (xs ++ ys) := fun H1 e Q q =>
  h H1 e _ fun H2 e2 => ⟨p, xs, rfl, .inl (ex_t (e.trans e2) hp), hr H2 (e.trans e2) _ fun H3 e3 => q H3 (e2.trans e3)⟩
theorem s_ext {l : Addr} {xs ys : List V} (hl : H l = some (.lst xs)) (ha : Ev ta σ H (.ref l)) (h : EvL te σ H ys) (hz : xs.length + ys.length ≤ 100000) (k : ∀ H1, Ex H H1 → D.nx σ (upd H1 l (.lst (xs ++ ys)))) :
    tDrop (tBM K "list" rExtend ta (tCons te tNil)) D σ H := ha H (Ex.refl H) _ fun H1 e1 =>
  ⟨Or.inl ⟨rfl, xs, sq_of (e1 l _ hl)⟩, h H1 e1 _ fun p H2 hp e2 h2 => ⟨l, p, xs, ys, rfl, rfl, e2 l _ (e1 l _ hl), h2, sz_of hz, k H2 (e1.trans e2)⟩⟩
theorem el_cat {l : Addr} {xs ys : List V} (ha : Ev ta σ H (.ref l)) (hl : H l = some (.lst xs)) (hb : EvL tb σ H ys) (hz : xs.length + ys.length ≤ 100000) : EvL (tOp rCat ta tb) σ H (xs ++ ys) := fun H1 e Q q =>
  ha H1 e _ fun H2 e2 => hb H2 (e.trans e2) _ fun p H3 hp e3 h3 => ⟨l, p, xs, ys, rfl, rfl, e3 _ _ (e2 _ _ (e _ _ hl)), h3, sz_of hz, fun r hr => q r _ (fresh_back (e2.trans e3) hr) ((e2.trans e3).trans (Ex.new hr)) upd_same⟩
theorem el_rep1 {v : V} {n : Int} (ha : EvL ta σ H [v]) (hb : Ev tb σ H (.int n)) (h0 : 0 ≤ n) (h1 : n ≤ 100000) : EvL (tOp rRep ta tb) σ H (List.replicate n.toNat v) := fun H1 e Q q =>
  ha H1 e _ fun p H2 hp e2 h2 => hb H2 (e.trans e2) _ fun H3 e3 => ⟨p, n, [v], rfl, rfl, e3 _ _ h2, by omega, by omega, by
    show 1 * n.toNat ≤ sizeLine
    exact sz_of (by omega), fun r hr => q r _ (fresh_back (e2.trans e3) hr) ((e2.trans e3).trans (Ex.new hr)) (by rw [upd_same, List.flatten_replicate_singleton])⟩
theorem eu_call {sp : Sp} {dvs vs xs : List V} {E : XK} {t : TA} (h : EvA t σ H vs) (hs : ∀ H1, Ex H H1 → ∀ (Q : VK) (E : XK), (∀ p H2, H1 p = none → Ex H1 H2 → H2 p = some (.tup xs) → Q (.ref p) H2) → sp (vs ++ dvs) H1 Q E) : EvU (tCall sp dvs E t) σ H xs := fun H1 e Q q =>
  h H1 e _ fun H2 e2 => hs H2 (e.trans e2) Q E fun p H3 hp e3 h3 => q p H3 (fresh_back e2 hp) (e2.trans e3) h3
theorem q_par {i j : Nat} {t : TA} {v w : V} (h : EvA t σ H [v, w]) (k : ∀ H1, Ex H H1 → tz D ((σ.set i (some v)).set j (some w)) H1) : tSeq (tPar i j t) tz D σ H := h H (Ex.refl H) _ fun H1 e => ⟨v, w, rfl, k H1 e⟩
end
def spTo (K : PySem.W.Frag) (Pt : Addr) : Sp := fun vs H Q _ => ∃ (k : Int) (a t : Addr) (xs : List V) (rs : List R) (n b : Int), vs = [.int k, .ref a, .ref t] ∧ (k = 1 ∨ k = 2) ∧ SqL K H a xs ∧ Rows K H xs rs ∧ Wf k rs ∧ (rs.length : Int) ≤ most k ∧ asc rs = true ∧ SqT K H t [.int n, .int b] ∧ Tab H Pt ∧
  ∀ (p : Addr) (H' : Hp), H p = none → Ex H H' → H' p = some (.lst ((blk k rs n b).map V.int)) → Q (.ref p) H'
section
variable {P : Program} {w : World} {K : PySem.W.Frag} {mg : Str → Option Value} {base : Heap} {aK : Addr}
theorem ok_to {f fM fA Pt : Addr} {fd fdM fdA : FuncData} (F : Fun K "to_block" "to_block" sTo f fd) (FM : Fun K "most_items" "most_items" sMost fM fdM) (bM : Binds K fdM ["kind"] []) (gM : mg "most_items" = some (.ref fM)) (FA : Fun K "are_ascending" "are_ascending" sAsc fA fdA) (GA : FnOk P w K mg base CX0 1 fA fdA ["items"] (spAsc K Pt)) (bA : Binds K fdA ["items"] []) (gA : mg "are_ascending" = some (.ref fA)) (T : Txt mg K aK) : FnOk P w K mg base CX0 2 f fd ["kind", "items", "pointer"] (spTo K Pt) := by
  have GM : FnOk P w K mg base CX0 1 fM fdM ["kind"] spMost := ok_most FM T
  refine F.ok scTo (fun vs H Q E h => ?_) (fun cdv A outer s H vs Q E hr h => ?_)
  · obtain ⟨k, a, t, xs, rs, n, b, rfl, _⟩ := h
    rfl
  · obtain ⟨k, a, t, xs, rs, n, b, rfl, hk, hS, hR, hW, hm, hasc, hP, hT, q⟩ := h
    obtain ⟨_, gBLOCK_WORDS⟩ := T.gBLOCK_WORDS
    have hxl := hR.len
    have hbf := body_fits hk hW hm
    have hrl : rs.length ≤ 5 := by
      rcases hk with rfl | rfl
      · have e : most 1 = 4 := rfl
        omega
      · have e : most 2 = 5 := rfl
        omega
    refine ⟨_, (pss_cons (ps_if (PW.pt (pw_or (pt_cmpR op_gt (pe_callB call_len_seq (by rfl) T.len (by decide +kernel) (pa_cons (pv 1) pa_nil)) (pe_call GM hr (by rfl) gM FM.kp bM .nil pass0 (pa_cons (pv 0) pa_nil)) (nomark _)) (pw_or1 (pt_not (pt_val (pe_call GA hr (by rfl) gA FA.kp bA .nil pass0 (pa_cons (pv 1) pa_nil))))))) (pss_one ps_never) pss_nil)
      (pss_cons (ps_set (i := 3) scTo.nd rfl (Or.inl rfl) (pe_lst (pa_cons (pv 0) (pa_cons (pe_callB call_len_seq (by rfl) T.len (by decide +kernel) (pa_cons (pv 1) pa_nil)) (pa_star (pv 2) pa_nil)))))
      (pss_cons (ps_for PassesOwn.never rfl (pi_list (pv 1)) (pg_tup (by rfl) (pgs_cons (pg_name (i := 4) scTo.nd rfl (Or.inl rfl)) (pgs_cons (pg_name (i := 5) scTo.nd rfl (Or.inl rfl)) pgs_nil))) (pss_one (ps_expr (pe_bm PySem.F.plainAttrs_list PySem.F.slot_list_extend PySem.F.type_list_extend mt_extend (pv 3) (pa_cons (pe_lst (pa_star (pv 4) (pa_star (pv 5) pa_nil))) pa_nil)))))
      (pss_one (ps_ret (pe_op op_cat (pv 3) (pe_op op_rep (pe_lst (pa_cons pe_int pa_nil)) (pe_op op_sub (pe_glob (v := .int 32) rfl gBLOCK_WORDS ⟨_, rfl⟩) (pe_callB call_len_seq (by rfl) T.len (by decide +kernel) (pa_cons (pv 3) pa_nil)))))))))), ?_⟩
    refine q_when (b := false) (et_is (et_or (et_test (ev_op (ev_len (ev_var rfl) hS) (ev_call (vs := [.int k]) (z := .int (most k)) (ea_cons (ev_var rfl) ea_nil) (fun H1 e1 Q' q' E' => ⟨k, rfl, hk, q'⟩)) rv_I0)) (fun _ => et_not (et_B (ev_call (vs := [.ref a]) (z := .bl (asc rs)) (ea_cons (ev_var rfl) ea_nil) (fun H1 e1 Q' q' E' => ⟨a, xs, rs, rfl, ex_l e1 hS, hR.mono e1, by omega, hT.mono e1, q'⟩))))) (by
      rw [hasc, decide_eq_false (show ¬ ((xs.length : Int) > most k) by omega)]
      rfl)) (fun h => by cases h) (fun _ H1 e1 => ?_)
    refine q_asgL (xs := ((k :: (rs.length : Int) :: n :: b :: body (rs.take 0)).map V.int)) (el_is (el_lst (ea_cons (ev_var rfl) (ea_cons (ev_len (ev_var rfl) (ex_l e1 hS)) (ea_star (ev_var rfl) (ex_t e1 hP) ea_nil))) (by simp)) (by rw [hxl]; rfl)) fun ba H2 hba e2 h2 => ?_
    have hba0 : H ba = none := fresh_back e1 hba
    refine q_forL (ev_var rfl) (ex_l (e1.trans e2) hS) (fun i σ' H' => ∃ y4 y5 : Option V, σ' = [some (.int k), some (.ref a), some (.ref t), some (.ref ba), y4, y5] ∧ Ex H H' ∧ H' ba = some (.lst ((k :: (rs.length : Int) :: n :: b :: body (rs.take i)).map V.int)))
      (fun H3 e3 => ⟨none, none, rfl, (e1.trans e2).trans e3, e3 _ _ h2⟩) (fun i σ' H' _ ⟨_, _, _, e, _⟩ => ex_l e hS) ?_ ?_
    · rintro i x σ' H' hx ⟨y4, y5, rfl, e0, hb0⟩
      obtain ⟨u, ku, vu, r, rfl, er, su, sk, sv⟩ := hR.at hx
      have hi : i < rs.length := (List.getElem?_eq_some_iff.mp er).1
      have htk : rs.take (i + 1) = rs.take i ++ [r] := by rw [List.take_add_one, er]; rfl
      have hwt : Wf k (rs.take (i + 1)) := fun x hx => hW x (List.mem_of_mem_take hx)
      have hl0 := body_fits (k := k) (rs := rs.take (i + 1)) hk hwt (by rw [List.length_take]; omega)
      rw [htk, body_snoc, List.length_append] at hl0
      refine ⟨u, _, rfl, ex_t e0 su, rfl, _, _, rfl, _, _, rfl, rfl, ?_⟩
      refine s_ext (ys := (r.1 ++ r.2).map V.int) hb0 (ev_var rfl) (el_is (el_lst (ea_star (ev_var rfl) (ex_t e0 sk) (ea_star (ev_var rfl) (ex_t e0 sv) ea_nil)) (by
        rw [List.length_append, List.length_append, List.length_map, List.length_map]
        rw [List.length_append] at hl0
        simp only [List.length_nil]
        omega)) (by rw [List.append_nil, List.map_append])) (by
        rw [List.length_map, List.length_map]
        simp only [List.length_cons]
        omega) fun H3 e3 => ⟨_, _, rfl, (e0.trans e3).mut hba0, ?_⟩
      rw [upd_same, ← List.map_append, htk, body_snoc]
      rfl
    · rintro σ' H' ⟨y4, y5, rfl, e0, hb0⟩
      have htl : rs.take xs.length = rs := by rw [hxl, List.take_length]
      rw [htl] at hb0
      refine s_retL (el_is (el_cat (ev_var rfl) hb0 (el_rep1 (el_lst (ea_cons ev_c ea_nil) (by simp)) (ev_op ev_c (ev_len (ev_var rfl) (sq_of hb0)) rv_I0) (by
        rw [List.length_map]
        simp only [List.length_cons]
        omega) (by omega)) (by
        rw [List.length_map, List.length_replicate]
        simp only [List.length_cons]
        omega)) (ys := (blk k rs n b).map V.int) ?_) fun p H3 hp e3 h3 => q p H3 (fresh_back e0 hp) (e0.trans e3) h3
      rw [List.length_map]
      simp only [List.length_cons]
      rw [show ((32 : Int) - (((body rs).length + 1 + 1 + 1 + 1 : Nat) : Int)).toNat = 28 - (body rs).length by omega]
      unfold blk
      simp only [List.map_cons, List.map_append, List.map_replicate, List.cons_append]
end

end NN

set_option Elab.async false
set_option linter.all false
set_option maxRecDepth 100000
set_option maxHeartbeats 4000000
namespace NN
open PySem PySem.Spec PyProof.Rows L2 Evl LK LT LG LS LQ LX LN StX
theorem size_eq (k : Int) : size k = ((3 + vsz k : Nat) : Int) := by
  unfold size vsz
  split <;> rfl
theorem vsz_le (k : Int) : vsz k ≤ 4 := by
  unfold vsz
  split <;> omega
theorem cut_mid (xs : List V) (s e : Nat) (hs : s ≤ e) (he : e ≤ xs.length) : cutV xs (some (s : Int)) (some (e : Int)) = (xs.drop s).take (e - s) := by
  unfold cutV
  rw [HT.sIx_nat, HT.sIx_nat, show min s xs.length = s from Nat.min_eq_left (by omega), show min e xs.length = e from Nat.min_eq_left he]
theorem rg7 : ∀ m : Fin 5, (7 : Int) ≠ 0 ∧ (7 : Int).natAbs < 1073741824 ∧ Builtin.Range.small 4 (4 + (m.val : Int) * 7) 7 = true ∧ Builtin.Range.rangeSize 4 (4 + (m.val : Int) * 7) 7 = m.val := by decide +kernel
theorem rg5 : ∀ m : Fin 6, (5 : Int) ≠ 0 ∧ (5 : Int).natAbs < 1073741824 ∧ Builtin.Range.small 4 (4 + (m.val : Int) * 5) 5 = true ∧ Builtin.Range.rangeSize 4 (4 + (m.val : Int) * 5) 5 = m.val := by decide +kernel
theorem rg_of {k : Int} {m : Nat} (hk : k = 1 ∨ k = 2) (hm : (m : Int) ≤ most k) : RgC 4 (4 + (m : Int) * size k) (size k) m := by
  rcases hk with rfl | rfl
  · have e : most 1 = 4 := rfl
    exact rg7 ⟨m, by omega⟩
  · have e : most 2 = 5 := rfl
    exact rg5 ⟨m, by omega⟩
theorem body_split {rs : List R} {i : Nat} {r : R} (h : rs[i]? = some r) : body rs = body (rs.take i) ++ ((r.1 ++ r.2) ++ body (rs.drop (i + 1))) := by
  obtain ⟨hi, e⟩ := List.getElem?_eq_some_iff.mp h
  have e1 : rs = rs.take i ++ (r :: rs.drop (i + 1)) := by
    rw [← e, ← List.drop_eq_getElem_cons hi, List.take_append_drop]
  conv => lhs; rw [e1]
  unfold body
  rw [List.flatMap_append, List.flatMap_cons]
theorem row_words {k n b : Int} {rs : List R} {i : Nat} {r : R} (hW : Wf k rs) (h : rs[i]? = some r) : ((blk k rs n b).drop (4 + i * (3 + vsz k))).take (3 + vsz k) = r.1 ++ r.2 := by
  have hi := (List.getElem?_eq_some_iff.mp h).1
  have hl : (body (rs.take i)).length = i * (3 + vsz k) := by
    rw [body_len (k := k) (fun x hx => hW x (List.mem_of_mem_take hx)), List.length_take, Nat.min_eq_left (by omega)]
  obtain ⟨h1, h2⟩ := hW r (List.mem_of_getElem? h)
  have e : (blk k rs n b).drop (4 + i * (3 + vsz k)) = (r.1 ++ r.2) ++ (body (rs.drop (i + 1)) ++ List.replicate (28 - (body rs).length) 0) := by
    rw [← List.drop_drop]
    show (body rs ++ List.replicate (28 - (body rs).length) 0).drop _ = _
    conv => lhs; rw [body_split h]
    rw [List.append_assoc, ← hl, List.drop_left, List.append_assoc, ← body_split h]
  rw [e, show 3 + vsz k = (r.1 ++ r.2).length by rw [List.length_append, h1, h2], List.take_left]
theorem tail_words {k n b : Int} {rs : List R} (hW : Wf k rs) : (blk k rs n b).drop (4 + rs.length * (3 + vsz k)) = List.replicate (28 - (body rs).length) 0 := by
  rw [← List.drop_drop]
  show (body rs ++ List.replicate (28 - (body rs).length) 0).drop _ = _
  rw [← body_len hW, List.drop_left]
theorem blk_len {k n b : Int} {rs : List R} (hk : k = 1 ∨ k = 2) (hW : Wf k rs) (hm : (rs.length : Int) ≤ most k) : (blk k rs n b).length = 32 := by
  have := body_fits hk hW hm
  unfold blk
  simp only [List.length_cons, List.length_append, List.length_replicate]
  omega
theorem lc_rows {K : PySem.W.Frag} {ta : TA} {te : TE} {j : Nat} {vs : List Nat} {σ : L2.St} {H : Hp} {lo hi c : Int} {rs : List R} {Q : VK} (h : EvA ta σ H [.int lo, .int hi, .int c]) (hR : RgC lo hi c rs.length) (hn : rs.length ≤ 1000) (hw : ∀ x, wipe ((wipe σ vs).set j (some x)) vs = wipe σ vs)
    (he : ∀ (i : Nat) (r : R) H1, Ex H H1 → rs[i]? = some r → ∀ Q : VK, (∀ t k v H2, H1 t = none → H1 k = none → H1 v = none → Ex H1 H2 → H2 t = some (.tup [.ref k, .ref v]) → H2 k = some (.tup (r.1.map V.int)) → H2 v = some (.tup (r.2.map V.int)) → Q (.ref t) H2) → te ((wipe σ vs).set j (some (.int (lo + (i : Nat) * c)))) H1 Q)
    (q : ∀ D xs H1, H D = none → Ex H H1 → H1 D = some (.lst xs) → Rows K H1 xs rs → Q (.ref D) H1) : tLc (iRng3 ta) (gName j) tYes te vs σ H Q := h H (Ex.refl H) _ fun H1 e1 => ⟨lo, hi, c, rs.length, rfl, hR, fun D hD => by
  have hD0 := fresh_back e1 hD
  refine lc_it walk_rangeC (fun i H' => Ex H H' ∧ ∃ xs, H' D = some (.lst xs) ∧ Rows K H' xs (rs.take i)) ⟨e1.mut hD0, [], upd_same, .nil⟩ (fun _ _ _ _ => trivial) (fun i x H2 H3 hi p y => ?_) (fun H' ⟨e0, xs, hx, hr⟩ => ?_)
  · obtain ⟨rfl, rfl⟩ := y
    obtain ⟨e0, xs, hx, hr⟩ := p
    have er := List.getElem?_eq_getElem hi
    have htk : rs.take (i + 1) = rs.take i ++ [rs[i]] := by rw [List.take_add_one, er]; rfl
    have hxl := hr.len
    rw [List.length_take] at hxl
    refine ⟨hw _, ?_⟩
    unfold tYes
    simp only [if_true]
    refine he i _ _ e0 er _ fun t k v H4 ht hk hv e4 h1 h2 h3 => ⟨xs, e4 _ _ hx, sz_lt (by omega), (e0.trans e4).mut hD0, xs ++ [.ref t], upd_same, ?_⟩
    have tx : TEx H4 (upd H4 D (.lst (xs ++ [.ref t]))) := TEx.upd (e4 _ _ hx)
    rw [htk]
    exact Rows.snoc (tx.tt h1) (tx.tt h2) (tx.tt h3) ((hr.mono e4).tmono tx)
  · rw [List.take_length] at hr
    exact q D xs H' hD0 e0 hx hr
  ⟩
theorem q_rows {K : PySem.W.Frag} {ta : TA} {te : TE} {i0 j : Nat} {vs : List Nat} {σ : L2.St} {H : Hp} {lo hi c : Int} {rs : List R} {D : Ends} {tz : TS} (h : EvA ta σ H [.int lo, .int hi, .int c]) (hR : RgC lo hi c rs.length) (hn : rs.length ≤ 1000) (hw : ∀ x, wipe ((wipe σ vs).set j (some x)) vs = wipe σ vs)
    (he : ∀ (i : Nat) (r : R) H1, Ex H H1 → rs[i]? = some r → ∀ Q : VK, (∀ t k v H2, H1 t = none → H1 k = none → H1 v = none → Ex H1 H2 → H2 t = some (.tup [.ref k, .ref v]) → H2 k = some (.tup (r.1.map V.int)) → H2 v = some (.tup (r.2.map V.int)) → Q (.ref t) H2) → te ((wipe σ vs).set j (some (.int (lo + (i : Nat) * c)))) H1 Q)
    (q : ∀ L xs H1, H L = none → Ex H H1 → H1 L = some (.lst xs) → Rows K H1 xs rs → tz D (σ.set i0 (some (.ref L))) H1) : tSeq (tAsg (tLc (iRng3 ta) (gName j) tYes te vs) (gName i0)) tz D σ H :=
  lc_rows (K := K) (Q := fun v H1 => tz D (σ.set i0 (some v)) H1) h hR hn hw he q
def ptrs (k : Int) (rs : List R) : Prop := k = 2 → ∀ r ∈ rs, ∃ n b, r.2 = [n, b] ∧ ptr n b = true
def spFrom (K : PySem.W.Frag) (Pt Pf : Addr) : Sp := fun vs H Q _ => ∃ (k : Int) (a : Addr) (rs : List R) (n b : Int), vs = [.ref a] ∧ (k = 1 ∨ k = 2) ∧ SqL K H a ((blk k rs n b).map V.int) ∧ Wf k rs ∧ (rs.length : Int) ≤ most k ∧ asc rs = true ∧ ptr n b = true ∧ ptrs k rs ∧ Tab H Pt ∧ Tab H Pf ∧
  ∀ (t l : Addr) (xs : List V) (H' : Hp), H t = none → H l = none → Ex H H' → H' t = some (.tup [.int k, .ref l]) → H' l = some (.lst xs) → Rows K H' xs rs → Q (.ref t) H'
section
variable {P : Program} {w : World} {K : PySem.W.Frag} {mg : Str → Option Value} {base : Heap} {aK : Addr}
theorem ok_from {f fM fA fI fP fR fO c Pf Pt : Addr} {fd fdM fdA fdI fdP fdR fdO : FuncData} (F : FunC K "from_block" "from_block" sFrom f fd c) (TB : LamX.TabB base mg c Pf) (FM : Fun K "most_items" "most_items" sMost fM fdM) (bM : Binds K fdM ["kind"] []) (gM : mg "most_items" = some (.ref fM)) (FA : Fun K "are_ascending" "are_ascending" sAsc fA fdA) (GA : FnOk P w K mg base CX0 1 fA fdA ["items"] (spAsc K Pt)) (bA : Binds K fdA ["items"] []) (gA : mg "are_ascending" = some (.ref fA))
    (FIW : Fun K "item_words" "item_words" sIw fI fdI) (bIW : Binds K fdI ["kind"] []) (gIW : mg "item_words" = some (.ref fI)) (FP : Fun K "is_pointer" "is_pointer" sPtr fP fdP) (bP : Binds K fdP ["pointer"] []) (gP : mg "is_pointer" = some (.ref fP)) (FR : Fun K "read_item" "read_item" sRead fR fdR) (bR : Binds K fdR ["words"] []) (gR : mg "read_item" = some (.ref fR))
    (FO : Fun K "own_pointer" "own_pointer" sOwn fO fdO) (bO : Binds K fdO ["block"] []) (gO : mg "own_pointer" = some (.ref fO)) (T : Txt mg K aK) : FnOk P w K mg base CX0 2 f fd ["block"] (spFrom K Pt Pf) := by
  have GM : FnOk P w K mg base CX0 1 fM fdM ["kind"] spMost := ok_most FM T
  have GIW : FnOk P w K mg base CX0 1 fI fdI ["kind"] spIw := ok_iwd FIW T
  have GP : FnOk P w K mg base CX0 1 fP fdP ["pointer"] (spPtr K) := ok_ptr FP T
  have GR : FnOk P w K mg base CX0 1 fR fdR ["words"] (spRead K) := ok_read FR T
  have GO : FnOk P w K mg base CX0 1 fO fdO ["block"] (spOwn K) := ok_own FO T
  refine F.ok scFrom (fun vs H Q E h => ?_) (fun A outer s H vs Q E hr h => ?_)
  · obtain ⟨k, a, rs, n, b, rfl, _⟩ := h
    rfl
  · obtain ⟨k, a, rs, n, b, rfl, hk, hS, hW, hm, hasc, hp, hps, hT, hTf, q⟩ := h
    obtain ⟨_, gLEAF⟩ := T.gLEAF
    obtain ⟨_, gINNER⟩ := T.gINNER
    obtain ⟨_, gFIRST_ITEM⟩ := T.gFIRST_ITEM
    have gFIRST_BLOCK' := T.gFIRST_BLOCK
    have gMAX_BLOCKS' := T.gMAX_BLOCKS
    have hbl := blk_len (n := n) (b := b) hk hW hm
    have hbf := body_fits hk hW hm
    have hrl : rs.length ≤ 5 := by
      rcases hk with rfl | rfl
      · have e : most 1 = 4 := rfl
        omega
      · have e : most 2 = 5 := rfl
        omega
    have hbd := body_len hW
    refine ⟨_, (pss_cons (ps_par (i := 1) (j := 2) rfl scFrom.nd rfl rfl (by decide) rfl rfl (pa_cons (pe_ix ix_list (pv 0) pe_int (fun _ _ => rfl)) (pa_cons (pe_ix ix_list (pv 0) pe_int (fun _ _ => rfl)) pa_nil)) (by rfl))
      (pss_cons (ps_if (PW.pt (pw_or (pt_cmpR op_notIn_seq (pv 1) (pe_tup (pa_cons (pe_glob (v := .int 1) rfl gLEAF ⟨_, rfl⟩) (pa_cons (pe_glob (v := .int 2) rfl gINNER ⟨_, rfl⟩) pa_nil))) rfl) (pw_or (pt_cmpR op_gt (pv 2) (pe_call GM hr (by rfl) gM FM.kp bM .nil pass0 (pa_cons (pv 1) pa_nil)) (nomark _)) (pw_or1 (pt_not (pt_val (pe_call GP hr (by rfl) gP FP.kp bP .nil pass0 (pa_cons (pe_call GO hr (by rfl) gO FO.kp bO .nil pass0 (pa_cons (pv 0) pa_nil)) pa_nil)))))))) (pss_one ps_never) pss_nil)
      (pss_cons (ps_set (i := 3) scFrom.nd rfl (Or.inr rfl) (pe_call GIW hr (by rfl) gIW FIW.kp bIW .nil pass0 (pa_cons (pv 1) pa_nil)))
      (pss_cons (ps_set (i := 4) scFrom.nd rfl (Or.inl rfl) (pe_op op_add (pe_glob (v := .int 4) rfl gFIRST_ITEM ⟨_, rfl⟩) (pe_op op_mul (pv 2) (pv 3))))
      (pss_cons (ps_setLc (i := 5) (own := [("start", 6)]) (g := gName 6) (tt := tYes) rfl scFrom.nd rfl rfl (sw_true rfl rfl rfl (by decide +kernel)) (pi_range3 (by rfl) T.range (pa_cons (pe_glob (v := .int 4) rfl gFIRST_ITEM ⟨_, rfl⟩) (pa_cons (pv 4) (pa_cons (pv 3) pa_nil)))) (blkOk_by (own := [("start", 6)]) (N := ["block", "kind", "many", "size", "end", "items", "start"]) (sc := defScope sFrom) (by decide +kernel)) (fun _ _ _ _ _ => pg_name (i := 6) scFrom.nd rfl (Or.inl rfl)) (fun _ _ _ _ _ => pts_nil) (fun _ _ _ _ _ => (pe_call GR hr (by rfl) gR FR.kp bR .nil pass0 (pa_cons (pe_slice (r := rSlL K) sl_list (pv 0) (po_some (pv 6)) (po_some (pe_op op_add (pv 6) (pv 3)))) pa_nil))))
      (pss_cons (ps_if (PW.pt (pw_or (pt_not (pt_val (pe_call GA hr (by rfl) gA FA.kp bA .nil pass0 (pa_cons (pv 5) pa_nil)))) (pw_or1 (pt_val (pe_any hr (by rfl) T.any TB rfl ⟨rfl, rfl, by decide +kernel, rfl, rfl, fun y hy e => absurd e ((by decide +kernel : ∀ y ∈ _, y.2 ≠ NameKind.free) y hy)⟩ (pe_slice sl_list (pv 0) (po_some (pv 4)) po_none) (fun _ => rfl)))))) (pss_one ps_never) pss_nil)
      (pss_cons (ps_if (PW.pt (pw_and (pt_cmpR op_eq (pv 1) (pe_glob (v := .int 2) rfl gINNER ⟨_, rfl⟩) (nomark _)) (pw_and1 (pt_not (pt_val (pe_allT hr (by rfl) T.all (by decide +kernel) TB rfl ⟨rfl, rfl, by decide +kernel, rfl, rfl, fun y hy e => absurd e ((by decide +kernel : ∀ y ∈ _, y.2 ≠ NameKind.free) y hy)⟩ rfl (by decide) (pv 5) (fun _ => rfl))))))) (pss_one ps_never) pss_nil)
      (pss_one (ps_ret (pe_tup (pa_cons (pv 1) (pa_cons (pv 5) pa_nil)))))))))))), ?_⟩
    refine q_par (v := .int k) (w := .int (rs.length : Int)) (ea_cons (ev_op (ev_var rfl) ev_c (rv_ixL hS (atI_nat (j := 0) rfl))) (ea_cons (ev_op (ev_var rfl) ev_c (rv_ixL hS (atI_nat (j := 1) rfl))) ea_nil)) fun H1 e1 => ?_
    have hin : inV (.int k) [.int 1, .int 2] = true := by rcases hk with rfl | rfl <;> rfl
    refine q_when (b := false) (et_is (et_or (et_test (ev_niU (ev_var rfl) (eu_tup (ea_cons ev_c (ea_cons ev_c ea_nil)) (by simp)) rfl rfl)) (fun _ => et_or (et_test (ev_op (ev_var rfl) (ev_call (vs := [.int k]) (z := .int (most k)) (ea_cons (ev_var rfl) ea_nil) (fun H1 e1 Q' q' E' => ⟨k, rfl, hk, q'⟩)) rv_I0)) (fun _ => et_not (et_B (ev_callU1 (z := .bl (ptr n b)) (eu_call (vs := [.ref a]) (xs := [.int n, .int b]) (ea_cons (ev_var rfl) ea_nil) (fun H2 e2 Q' E' q' => ⟨a, k, _, n, b, _, rfl, ex_l (e1.trans e2) hS, q'⟩)) ea_nil (fun p H2 h2 e2 H3 e3 Q' q' E' => ⟨p, n, b, rfl, st_of (e3 _ _ h2), q'⟩)))))) (by
      rw [hin, hp, decide_eq_false (show ¬ ((rs.length : Int) > most k) by omega)]
      rfl)) (fun h => by cases h) (fun _ H2 e2 => ?_)
    refine q_asg (ev_call (vs := [.int k]) (z := .int (size k)) (ea_cons (ev_var rfl) ea_nil) (fun H1 e1 Q' q' E' => ⟨k, rfl, q'⟩)) fun H3 e3 => ?_
    refine q_asg (v := .int (4 + (rs.length : Int) * size k)) (ev_op ev_c (ev_op (ev_var rfl) (ev_var rfl) (rv_I (.inl ⟨by omega, by omega⟩))) rv_I0) fun H4 e4 => ?_
    have e04 := ((e1.trans e2).trans e3).trans e4
    refine q_rows (K := K) (rs := rs) (ea_cons ev_c (ea_cons (ev_var rfl) (ea_cons (ev_var rfl) ea_nil))) (rg_of hk hm) (by omega) (fun _ => rfl) (fun i r H5 e5 er Q' q' => ?_) (fun D xs H5 hD e5 hx hrw => ?_)
    · have hi := (List.getElem?_eq_some_iff.mp er).1
      obtain ⟨w1, w2⟩ := hW r (List.mem_of_getElem? er)
      have hv := vsz_le k
      have hmul : (i + 1) * (3 + vsz k) ≤ rs.length * (3 + vsz k) := Nat.mul_le_mul_right _ (by omega)
      rw [← hbd] at hmul
      rw [Nat.succ_mul] at hmul
      have ecut : cutV ((blk k rs n b).map V.int) (some (4 + (i : Nat) * size k)) (some (4 + (i : Nat) * size k + size k)) = (r.1 ++ r.2).map V.int := by
        rw [size_eq, show (4 : Int) + (i : Nat) * ((3 + vsz k : Nat) : Int) = ((4 + i * (3 + vsz k) : Nat) : Int) by push_cast; rfl, ← Int.natCast_add, cut_mid _ _ _ (by omega) (by rw [List.length_map, hbl]; omega), Nat.add_sub_cancel_left, ← List.map_drop, ← List.map_take, row_words hW er]
      refine el_is (el_sl (ev_var rfl) (eo_some (ev_var rfl)) (eo_some (ev_op (ev_var rfl) (ev_var rfl) rv_I0)) (ex_l (e04.trans e5) hS)) ecut H5 (Ex.refl _) _ fun p H6 hp6 e6 h6 => ⟨p, r.1 ++ r.2, rfl, sq_of h6, by rw [List.length_append]; omega, fun t ka va H7 ht hka hva e7 g1 g2 g3 => ?_⟩
      rw [← w1, List.take_left] at g2
      rw [← w1, List.drop_left] at g3
      exact q' t ka va H7 (fresh_back e6 ht) (fresh_back e6 hka) (fresh_back e6 hva) (e6.trans e7) g1 g2 g3
    · have hxl := hrw.len
      have e05 := e04.trans e5
      have hz : cutV ((blk k rs n b).map V.int) (some (4 + (rs.length : Int) * size k)) none = (List.replicate (28 - (body rs).length) (0 : Int)).map V.int := by
        rw [size_eq, show (4 : Int) + (rs.length : Int) * ((3 + vsz k : Nat) : Int) = ((4 + rs.length * (3 + vsz k) : Nat) : Int) by push_cast; rfl, cut_from, ← List.map_drop, tail_words hW]
      refine q_when (b := false) (et_is (et_or (et_not (et_B (ev_call (vs := [.ref D]) (z := .bl (asc rs)) (ea_cons (ev_var rfl) ea_nil) (fun H6 e6 Q' q' E' => ⟨D, xs, rs, rfl, sq_of (e6 _ _ hx), hrw.mono e6, by omega, hT.mono (e05.trans e6), q'⟩)))) (fun _ => et_B (ev_genL (f := fun i => (List.replicate (28 - (body rs).length) (0 : Int)).getD i 0 != 0) (el_is (el_sl (ev_var rfl) (eo_some (ev_var rfl)) eo_none (ex_l e05 hS)) hz) (hTf.mono e05) (fun H6 e6 i u hi hu => qv_cmp qr_ne_int (qv_x rfl rfl (by
        rw [List.length_map, List.length_replicate] at hi
        rw [List.getD_eq_getElem?_getD, List.getElem?_map, List.getElem?_replicate, if_pos hi] at hu
        rw [List.getD_eq_getElem?_getD, List.getElem?_replicate, if_pos hi]
        exact hu)) qv_int rfl)))) (by
        rw [hasc, List.length_map, anyF_list (List.replicate (28 - (body rs).length) (0 : Int)) 0 (fun z => z != 0)]
        have : (List.replicate (28 - (body rs).length) (0 : Int)).any (fun z => z != 0) = false := by
          rw [List.any_eq_false]
          intro z hz
          rw [(List.mem_replicate.mp hz).2]
          decide
        rw [this]
        rfl)) (fun h => by cases h) (fun _ H6 e6 => ?_)
      have hva : ∀ i : Nat, ∃ v : Addr, ∀ r, rs[i]? = some r → ∃ (t ka : Addr), xs[i]? = some (.ref t) ∧ SqT K H6 t [.ref ka, .ref v] ∧ SqT K H6 v (r.2.map V.int) := fun i => by
        by_cases hi : i < xs.length
        · obtain ⟨t, ka, v, r, ex, er, s1, _, s3⟩ := (hrw.mono e6).at (List.getElem?_eq_getElem hi)
          refine ⟨v, fun r' er' => ?_⟩
          rw [er] at er'
          cases er'
          exact ⟨t, ka, by rw [List.getElem?_eq_getElem hi, ex], s1, s3⟩
        · refine ⟨0, fun r er => absurd (List.getElem?_eq_some_iff.mp er).1 (by omega)⟩
      obtain ⟨va, hva⟩ := Classical.skolem.mp hva
      have ca : decide (V.int k = V.int 2) = true → k = 2 := fun h => V.int.inj (of_decide_eq_true h)
      have fin : k = 2 → allF xs.length (fun i => ptr ((rs.getD i ([], [])).2.getD 0 0) ((rs.getD i ([], [])).2.getD 1 0)) = true := fun h2 => by
        unfold allF
        rw [List.all_eq_true]
        intro i hi
        have hi' : i < rs.length := by rw [← hxl]; exact List.mem_range.mp hi
        obtain ⟨n', b', e1, e2⟩ := hps h2 rs[i] (List.getElem_mem hi')
        rw [getD_of (List.getElem?_eq_getElem hi'), e1]
        exact e2
      refine q_when (b := false) (et_is (et_and (b := !(allF xs.length (fun i => ptr ((rs.getD i ([], [])).2.getD 0 0) ((rs.getD i ([], [])).2.getD 1 0)))) (et_test (ev_op (ev_var rfl) ev_c (rv_eq rfl))) (fun hb => et_not (et_B (ev_genT (n := xs.length) (xs := fun i => .ref (va i)) (f := fun i => ptr ((rs.getD i ([], [])).2.getD 0 0) ((rs.getD i ([], [])).2.getD 1 0)) (ev_var rfl) (hTf.mono (e05.trans e6)) (fun H7 e7 => ⟨D, xs, rfl, sq_of (e7 _ _ (e6 _ _ hx)), rfl, fun i hi => by
        obtain ⟨t, ka, g1, g2, _⟩ := hva i rs[i] (List.getElem?_eq_getElem (by omega))
        exact ⟨t, .ref ka, g1, ex_t e7 g2⟩⟩) (fun H7 e7 i u hi hu => by
        have hi' : i < rs.length := by omega
        obtain ⟨t, ka, g1, g2, g3⟩ := hva i rs[i] (List.getElem?_eq_getElem hi')
        obtain ⟨n', b', q1, q2⟩ := hps (ca hb) rs[i] (List.getElem_mem hi')
        rw [q1] at g3
        rw [getD_of (List.getElem?_eq_getElem hi'), q1]
        obtain ⟨_, gFB⟩ := gFIRST_BLOCK'
        obtain ⟨_, gMB⟩ := gMAX_BLOCKS'
        exact qv_call2 (c1 := decide (5 ≤ n') && decide (n' < 256)) (c2 := decide (1 ≤ b')) hr (hTf.mono ((e05.trans e6).trans e7)) rfl rfl gP FP rfl scPtr rfl rfl rfl (by decide) bP (qv_x rfl rfl hu) (ex_t e7 g3)
          (fun A0 v rv => qv_chain qr_le_int qr_lt_int (qv_glob rfl rfl gFB ⟨_, rfl⟩) (qv_x rfl rfl rv) (qv_glob rfl rfl gMB ⟨_, rfl⟩)) (fun A0 v rv => qv_cmp qr_ge_int (qv_x rfl rfl rv) qv_int rfl)))))) (by
        cases hd : decide (V.int k = V.int 2) with
        | false => rfl
        | true => rw [fin (ca hd)]; rfl)) (fun h => by cases h) (fun _ H7 e7 => ?_)
      exact s_retU (eu_tup (ea_cons (ev_var rfl) (ea_cons (ev_var rfl) ea_nil)) (by simp)) fun t H8 ht e8 h8 => q t D xs H8 (fresh_back (e05.trans (e6.trans e7)) ht) (fresh_back e04 hD) ((e05.trans (e6.trans e7)).trans e8) h8 (e8 _ _ (e7 _ _ (e6 _ _ hx))) (hrw.mono ((e6.trans e7).trans e8))
end

end NN

set_option Elab.async false
set_option linter.all false
set_option maxRecDepth 100000
set_option maxHeartbeats 4000000
namespace NN
open PySem PySem.Spec PyProof.Rows L2 Evl LK LT LG LS LQ LX LN StX
/-! ### pairs of a pointer and a bool -/
abbrev Pr := List Int × Bool
def pd (d : Pr) : PyData := .tuple [.tuple (d.1.map PyData.int), .bool d.2]
inductive Prs (K : PySem.W.Frag) (H : Hp) : List V → List Pr → Prop
  | nil : Prs K H [] []
  | cons {t p : Addr} {r : Pr} {xs : List V} {rs : List Pr} : SqT K H t [.ref p, .bl r.2] → SqT K H p (r.1.map V.int) → Prs K H xs rs → Prs K H (.ref t :: xs) (r :: rs)
section
variable {K : PySem.W.Frag} {H H' : Hp}
theorem Prs.tmono (e : TEx H H') : ∀ {xs : List V} {rs : List Pr}, Prs K H xs rs → Prs K H' xs rs
  | _, _, .nil => .nil
  | _, _, .cons h1 h2 h3 => .cons (e.t h1) (e.t h2) (h3.tmono e)
theorem Prs.mono (e : Ex H H') {xs : List V} {rs : List Pr} (h : Prs K H xs rs) : Prs K H' xs rs := h.tmono (.of e)
theorem Prs.len : ∀ {xs : List V} {rs : List Pr}, Prs K H xs rs → xs.length = rs.length
  | _, _, .nil => rfl
  | _, _, .cons _ _ h3 => congrArg (· + 1) h3.len
theorem Prs.snoc {t p : Addr} {r : Pr} (h1 : SqT K H t [.ref p, .bl r.2]) (h2 : SqT K H p (r.1.map V.int)) : ∀ {xs : List V} {rs : List Pr}, Prs K H xs rs → Prs K H (xs ++ [.ref t]) (rs ++ [r])
  | _, _, .nil => .cons h1 h2 .nil
  | _, _, .cons a b c => .cons a b (c.snoc h1 h2)
theorem Prs.dp : ∀ {xs : List V} {rs : List Pr}, Prs K H xs rs → DpAll K H xs (rs.map pd)
  | _, _, .nil => .nil
  | _, _, .cons (r := r) h1 h2 h3 => .cons (.tup h1 (.cons (.tup h2 (dp_ints r.1)) (.cons (.bl r.2) .nil))) h3.dp
end
theorem sh_pd (d : Pr) : Sh 2 (pd d) := sh_tup fun x hx => by
  rcases List.mem_cons.mp hx with e | hx
  · rw [e]
    exact sh_tup (sh_ints _)
  · rcases List.mem_cons.mp hx with e | hx
    · rw [e]
      exact sh_bool _ 1
    · cases hx
theorem sh_pds (ds : List Pr) : Sh 3 (.list (ds.map pd)) := sh_lst fun d hd => by
  obtain ⟨r, _, rfl⟩ := List.mem_map.mp hd
  exact sh_pd r
def nk (s : Int) : Bool := inV (.int s) [.int 4, .int 6]
def duR (k : Int) (r : R) : List Pr := if k = 2 then [(r.2, true)] else if (decide (V.int (r.1.getD 1 0) = V.int 3) || nk (r.1.getD 1 0)) = true then [(r.2.take 2, nk (r.1.getD 1 0))] else []
def dueOf (k : Int) (rs : List R) : List Pr := rs.flatMap (duR k)
theorem due_snoc (k : Int) (rs : List R) (r : R) : dueOf k (rs ++ [r]) = dueOf k rs ++ duR k r := by
  unfold dueOf
  rw [List.flatMap_append]
  simp
theorem duR_le (k : Int) (r : R) : (duR k r).length ≤ 1 := by
  unfold duR
  split
  · simp
  · split <;> simp
theorem due_le (k : Int) : ∀ rs : List R, (dueOf k rs).length ≤ rs.length
  | [] => Nat.le_refl _
  | r :: rs => by
    have ih := due_le k rs
    have h := duR_le k r
    show (duR k r ++ dueOf k rs).length ≤ rs.length + 1
    rw [List.length_append]
    omega
theorem lc_prs {K : PySem.W.Frag} {tl : TE} {tt : TT} {te : TE} {i j : Nat} {vs : List Nat} {σ : L2.St} {H : Hp} {la : Addr} {xs : List V} {rs : List R} {k : Int} {Q : VK} (hl : Ev tl σ H (.ref la)) (hx : SqL K H la xs) (hR : Rows K H xs rs) (hn : rs.length ≤ 100) (hw : ∀ x y, wipe (((wipe σ vs).set i (some x)).set j (some y)) vs = wipe σ vs)
    (he : ∀ (m : Nat) (r : R) (ka va : Addr) H1, Ex H H1 → rs[m]? = some r → SqT K H1 ka (r.1.map V.int) → SqT K H1 va (r.2.map V.int) → (duR k r = [] ∧ EvT tt (((wipe σ vs).set i (some (.ref ka))).set j (some (.ref va))) H1 false) ∨ ∃ d, duR k r = [d] ∧ EvT tt (((wipe σ vs).set i (some (.ref ka))).set j (some (.ref va))) H1 true ∧
      ∀ H1', Ex H1 H1' → ∀ Q : VK, (∀ t p H2, H1' t = none → Ex H1' H2 → H2 t = some (.tup [.ref p, .bl d.2]) → SqT K H2 p (d.1.map V.int) → Q (.ref t) H2) → te (((wipe σ vs).set i (some (.ref ka))).set j (some (.ref va))) H1' Q)
    (q : ∀ D ys H1, H D = none → Ex H H1 → H1 D = some (.lst ys) → Prs K H1 ys (dueOf k rs) → Q (.ref D) H1) : tLc (iList K tl) (gTup K 2 (gCons (gName i) (gCons (gName j) gNil))) tt te vs σ H Q := hl H (Ex.refl H) _ fun H1 e1 => ⟨la, rfl, ⟨xs, ex_l e1 hx⟩, fun D hD => by
  have hD0 := fresh_back e1 hD
  refine lc_list (xs := xs) (fun m H' => Ex H H' ∧ ∃ ys, H' D = some (.lst ys) ∧ Prs K H' ys (dueOf k (rs.take m))) ⟨e1.mut hD0, [], upd_same, .nil⟩ (fun _ _ _ p => ex_l p.1 hx) (fun m x H2 hm p => ?_) (fun H' ⟨e0, ys, hy, hp⟩ => ?_)
  · obtain ⟨e0, ys, hy, hp⟩ := p
    obtain ⟨u, ku, vu, r, rfl, er, su, sk, sv⟩ := hR.at hm
    have hm' := (List.getElem?_eq_some_iff.mp er).1
    have htk : rs.take (m + 1) = rs.take m ++ [r] := by rw [List.take_add_one, er]; rfl
    have hyl := hp.len
    have hdl := due_le k (rs.take m)
    rw [List.length_take] at hdl
    refine ⟨u, _, rfl, ex_t e0 su, rfl, _, _, rfl, _, _, rfl, rfl, hw _ _, ?_⟩
    rcases he m r ku vu H2 e0 er (ex_t e0 sk) (ex_t e0 sv) with ⟨h0, ht⟩ | ⟨d, h1, ht, hel⟩
    · refine ht H2 (Ex.refl _) _ fun H3 e3 => ?_
      rw [if_neg (by decide)]
      rw [htk, due_snoc, h0, List.append_nil]
      exact ⟨e0.trans e3, ys, e3 _ _ hy, hp.mono e3⟩
    · refine ht H2 (Ex.refl _) _ fun H3 e3 => ?_
      rw [if_pos rfl]
      refine hel H3 e3 _ fun t p H4 ht4 e4 g1 g2 => ⟨ys, e4 _ _ (e3 _ _ hy), sz_lt (by omega), ((e0.trans e3).trans e4).mut hD0, ys ++ [.ref t], upd_same, ?_⟩
      have tx : TEx H4 (upd H4 D (.lst (ys ++ [.ref t]))) := TEx.upd (e4 _ _ (e3 _ _ hy))
      rw [htk, due_snoc, h1]
      exact Prs.snoc (tx.t (st_of g1)) (tx.t g2) ((hp.mono (e3.trans e4)).tmono tx)
  · rw [hR.len, List.take_length] at hp
    exact q D ys H' hD0 e0 hy hp
  ⟩
theorem eu_slT {K : PySem.W.Frag} {te : TE} {σ : L2.St} {H : Hp} {tl th : TO} {a : Addr} {xs : List V} {lo hi : Option Int} (h : Ev te σ H (.ref a)) (h1 : EvO tl σ H lo) (h2 : EvO th σ H hi) (hs : SqT K H a xs) (hne : ¬ (HT.sIx xs.length 0 lo = 0 ∧ HT.sIx xs.length xs.length hi = xs.length)) : EvU (tSl (rSlT K) te tl th) σ H (cutV xs lo hi) := fun H1 e _ q =>
  h H1 e _ fun H2 e2 => h1 H2 (e.trans e2) _ fun H3 e3 => h2 H3 ((e.trans e2).trans e3) _ fun H4 e4 =>
    ⟨a, xs, rfl, ex_t (((e.trans e2).trans e3).trans e4) hs, hne, fun p hp => q p _ (fresh_back ((e2.trans e3).trans e4) hp) (((e2.trans e3).trans e4).trans (Ex.new hp)) upd_same⟩
def spPs (K : PySem.W.Frag) (Pt Pf : Addr) : Sp := fun vs H Q _ => ∃ (k : Int) (a : Addr) (rs : List R) (n b : Int), vs = [.ref a] ∧ (k = 1 ∨ k = 2) ∧ SqL K H a ((blk k rs n b).map V.int) ∧ Wf k rs ∧ (rs.length : Int) ≤ most k ∧ asc rs = true ∧ ptr n b = true ∧ ptrs k rs ∧ Tab H Pt ∧ Tab H Pf ∧
  ∀ (l : Addr) (ys : List V) (H' : Hp), H l = none → Ex H H' → H' l = some (.lst ys) → Prs K H' ys (dueOf k rs) → Q (.ref l) H'
section
variable {P : Program} {w : World} {K : PySem.W.Frag} {mg : Str → Option Value} {base : Heap} {aK : Addr}
theorem ok_ps {f fF Pf Pt : Addr} {fd fdF : FuncData} (F : Fun K "pointers" "pointers" sPtrs f fd) (FF : Fun K "from_block" "from_block" sFrom fF fdF) (GF : FnOk P w K mg base CX0 2 fF fdF ["block"] (spFrom K Pt Pf)) (bF : Binds K fdF ["block"] []) (gF : mg "from_block" = some (.ref fF)) (T : Txt mg K aK) : FnOk P w K mg base CX0 3 f fd ["block"] (spPs K Pt Pf) := by
  refine F.ok scPtrs (fun vs H Q E h => ?_) (fun cdv A outer s H vs Q E hr h => ?_)
  · obtain ⟨k, a, rs, n, b, rfl, _⟩ := h
    rfl
  · obtain ⟨k, a, rs, n, b, rfl, hk, hS, hW, hm, hasc, hp, hps, hT, hTf, q⟩ := h
    obtain ⟨_, gINNER⟩ := T.gINNER
    obtain ⟨_, gDATA_KEY⟩ := T.gDATA_KEY
    have hrl : rs.length ≤ 5 := by
      rcases hk with rfl | rfl
      · have e : most 1 = 4 := rfl
        omega
      · have e : most 2 = 5 := rfl
        omega
    refine ⟨_, (pss_cons (ps_asg (pe_call GF hr (by rfl) gF FF.kp bF .nil pass0 (pa_cons (pv 0) pa_nil)) (pg_tup (by rfl) (pgs_cons (pg_name (i := 1) scPtrs.nd rfl (Or.inl rfl)) (pgs_cons (pg_name (i := 2) scPtrs.nd rfl (Or.inl rfl)) pgs_nil))))
      (pss_cons (ps_if (pt_cmpR op_eq (pv 1) (pe_glob (v := .int 2) rfl gINNER ⟨_, rfl⟩) (nomark _)) (pss_one (ps_ret (pe_lc (own := [("_", 3), ("pointer", 4)]) (g := gTup K 2 (gCons (gName 3) (gCons (gName 4) gNil))) (tt := tYes) rfl scPtrs.nd (pi_list (pv 2)) (blkOk_by (own := [("_", 3), ("pointer", 4)]) (N := ["block", "kind", "items", "_", "pointer", "key", "value"]) (sc := defScope sPtrs) (by decide +kernel)) (fun _ _ _ _ _ => pg_tup rfl (pgs_cons (pg_name (i := 3) scPtrs.nd rfl (Or.inl rfl)) (pgs_cons (pg_name (i := 4) scPtrs.nd rfl (Or.inl rfl)) pgs_nil))) (fun _ _ _ _ _ => pts_nil) (fun _ _ _ _ _ => (pe_tup (pa_cons (pv 4) (pa_cons pe_bl pa_nil))))))) pss_nil)
      (pss_one (ps_ret (pe_lc (own := [("key", 5), ("value", 6)]) (g := gTup K 2 (gCons (gName 5) (gCons (gName 6) gNil))) rfl scPtrs.nd (pi_list (pv 2)) (blkOk_by (own := [("key", 5), ("value", 6)]) (N := ["block", "kind", "items", "_", "pointer", "key", "value"]) (sc := defScope sPtrs) (by decide +kernel)) (fun _ _ _ _ _ => pg_tup rfl (pgs_cons (pg_name (i := 5) scPtrs.nd rfl (Or.inl rfl)) (pgs_cons (pg_name (i := 6) scPtrs.nd rfl (Or.inl rfl)) pgs_nil))) (fun _ _ _ _ _ => (pts_one (PW.pt (pw_or (pt_cmpR op_eq (pe_ix (r := rIxT K) ix_tup (pv 5) pe_int (fun _ _ => rfl)) (pe_glob (v := .int 3) rfl gDATA_KEY ⟨_, rfl⟩) (nomark _)) (pw_or1 (pt_cmpR (r := rIn K false) op_in_seq (pe_ix (r := rIxT K) ix_tup (pv 5) pe_int (fun _ _ => rfl)) (pe_glob (v := .ref aK) rfl T.gNODE_KEYS rfl) rfl)))))) (fun _ _ _ _ _ => (pe_tup (pa_cons (pe_slice (r := rSlT K) sl_tup (pv 6) po_none (po_some pe_int)) (pa_cons (pe_cmpR (r := rIn K false) op_in_seq (pe_ix (r := rIxT K) ix_tup (pv 5) pe_int (fun _ _ => rfl)) (pe_glob (v := .ref aK) rfl T.gNODE_KEYS rfl) rfl) pa_nil))))))))), ?_⟩
    refine ev_var rfl H (Ex.refl H) _ fun H1 e1 => ⟨k, a, rs, n, b, rfl, hk, ex_l e1 hS, hW, hm, hasc, hp, hps, hT.mono e1, hTf.mono e1, fun t l xs H2 ht hl e2 h1 h2 hR => ?_⟩
    refine ⟨t, _, rfl, st_of h1, rfl, _, _, rfl, _, _, rfl, rfl, ?_⟩
    have e02 := e1.trans e2
    refine q_when (et_test (ev_op (ev_var rfl) ev_c (rv_eq rfl))) (fun hb H3 e3 => ?_) (fun hb H3 e3 => ?_)
    · have h2k : k = 2 := V.int.inj (of_decide_eq_true hb)
      refine lc_prs (K := K) (k := k) (rs := rs) (ev_var rfl) (sq_of (e3 _ _ h2)) (hR.mono e3) (by omega) (fun _ _ => rfl) (fun m r ka va H4 e4 er sk sv => .inr ⟨(r.2, true), by unfold duR; rw [if_pos h2k], fun _ _ _ q => q _ (Ex.refl _), fun H5 e5 Q' q' => ?_⟩) (fun D ys H4 hD e4 hy hp4 => q D ys H4 (fresh_back (e02.trans e3) hD) ((e02.trans e3).trans e4) hy hp4)
      exact eu_tup (ea_cons (ev_var rfl) (ea_cons ev_c ea_nil)) (by simp) H5 (Ex.refl _) _ fun t5 H6 ht5 e6 h6 => q' t5 va H6 ht5 e6 h6 (ex_t (e5.trans e6) sv)
    · have h2k : ¬ k = 2 := fun e => of_decide_eq_false hb (congrArg V.int e)
      have h1k : k = 1 := hk.resolve_right h2k
      refine lc_prs (K := K) (k := k) (rs := rs) (ev_var rfl) (sq_of (e3 _ _ h2)) (hR.mono e3) (by omega) (fun _ _ => rfl) (fun m r ka va H4 e4 er sk sv => ?_) (fun D ys H4 hD e4 hy hp4 => q D ys H4 (fresh_back (e02.trans e3) hD) ((e02.trans e3).trans e4) hy hp4)
      obtain ⟨w1, w2⟩ := hW r (List.mem_of_getElem? er)
      have w2' : r.2.length = 4 := by
        rw [w2, h1k]
        rfl
      have k1 : (r.1.map V.int)[1]? = some (.int (r.1.getD 1 0)) := by
        have h1 : 1 < r.1.length := by omega
        rw [List.getElem?_map, List.getElem?_eq_getElem h1, List.getD_eq_getElem?_getD, List.getElem?_eq_getElem h1]
        rfl
      have keyE : ∀ {σ : L2.St} {H5 : Hp}, Ex H4 H5 → σ[5]? = some (some (.ref ka)) → Ev (tOp (rIxT K) (tVar 5) (tC (.int 1))) σ H5 (.int (r.1.getD 1 0)) := fun e h => ev_op (ev_var h) ev_c (rv_ixT (ex_t e sk) (atI_nat (j := 1) k1))
      have tst : ∀ {σ : L2.St}, σ[5]? = some (some (.ref ka)) → EvT (tOr (tTest (tOp rEq (tOp (rIxT K) (tVar 5) (tC (.int 1))) (tC (.int 3)))) (tTest (tOp (rIn K false) (tOp (rIxT K) (tVar 5) (tC (.int 1))) (tC (.ref aK))))) σ H4 (decide (V.int (r.1.getD 1 0) = V.int 3) || nk (r.1.getD 1 0)) := fun h =>
        et_or (et_test (ev_op (keyE (Ex.refl _) h) ev_c (rv_eq rfl))) (fun _ => et_test (ev_op (keyE (Ex.refl _) h) ev_c (rv_isT (T.keys _) rfl rfl)))
      by_cases hc : (decide (V.int (r.1.getD 1 0) = V.int 3) || nk (r.1.getD 1 0)) = true
      · refine .inr ⟨(r.2.take 2, nk (r.1.getD 1 0)), by unfold duR; rw [if_neg h2k, if_pos hc], et_is (tst rfl) hc, fun H5 e5 Q' q' => ?_⟩
        have sl : ∀ {σ : L2.St}, σ[6]? = some (some (.ref va)) → EvU (tSl (rSlT K) (tVar 6) tNoPart (tPart (tC (.int 2)))) σ H5 ((r.2.take 2).map V.int) := fun h => by
          have z := eu_slT (ev_var h) eo_none (eo_some (ev_c (v := .int 2))) (ex_t e5 sv) (by
            rw [List.length_map, w2']
            decide)
          have e : cutV (r.2.map V.int) none (some 2) = (r.2.take 2).map V.int := (cut_to _ 2).trans List.map_take.symm
          rw [e] at z
          exact z
        refine sl rfl H5 (Ex.refl _) _ fun p H6 hp6 e6 h6 => ?_
        refine ea_cons (ev_op (keyE (e5.trans e6) rfl) ev_c (rv_isT (T.keys _) rfl rfl)) ea_nil H6 (Ex.refl _) _ fun H7 e7 => ⟨sz_of (by simp), fun t7 ht7 => q' t7 p _ (fresh_back (e6.trans e7) ht7) ((e6.trans e7).trans (Ex.new ht7)) upd_same (st_of ((Ex.new ht7) _ _ (e7 _ _ h6)))⟩
      · refine .inl ⟨by unfold duR; rw [if_neg h2k, if_neg hc], et_is (tst rfl) (by simpa using hc)⟩
end

end NN

set_option Elab.async false
set_option linter.all false
set_option maxRecDepth 100000
set_option maxHeartbeats 4000000
namespace NN
open PySem PySem.Spec PyProof.Rows L2 Evl LK LT LG LS LQ LX LN StX
theorem Rows.take {K : PySem.W.Frag} {H : Hp} : ∀ (n : Nat) {xs : List V} {rs : List R}, Rows K H xs rs → Rows K H (xs.take n) (rs.take n)
  | 0, _, _, _ => .nil
  | n + 1, _, _, .nil => .nil
  | n + 1, _, _, .cons a b c d => .cons a b c (d.take n)
theorem Rows.drop {K : PySem.W.Frag} {H : Hp} : ∀ (n : Nat) {xs : List V} {rs : List R}, Rows K H xs rs → Rows K H (xs.drop n) (rs.drop n)
  | 0, _, _, h => h
  | n + 1, _, _, .nil => .nil
  | n + 1, _, _, .cons a b c d => d.drop n
theorem Rows.app {K : PySem.W.Frag} {H : Hp} : ∀ {xs ys : List V} {rs ss : List R}, Rows K H xs rs → Rows K H ys ss → Rows K H (xs ++ ys) (rs ++ ss)
  | _, _, _, _, .nil, h => h
  | _, _, _, _, .cons a b c d, h => .cons a b c (d.app h)
def cntLt (rs : List R) (ms : List Int) : Nat := ((List.range rs.length).filter fun i => HT.lexLt (rs.getD i ([], [])).1 ms).length
def cntLe (rs : List R) (ms : List Int) : Nat := ((List.range rs.length).filter fun i => leV (rs.getD i ([], [])).1 ms).length
theorem given_length (n : Nat) (f : Nat → Bool) (v : Nat → V) : (given n f v).length = ((List.range n).filter f).length := by
  unfold given
  rw [List.length_map]
/-! ### the promises -/
def spPlace (K : PySem.W.Frag) : Sp := fun vs H Q _ => ∃ (a q : Addr) (xs : List V) (rs : List R) (ms : List Int), vs = [.ref a, .ref q] ∧ SqL K H a xs ∧ Rows K H xs rs ∧ rs.length ≤ 100 ∧ SqT K H q (ms.map V.int) ∧ RetV (.int (cntLt rs ms : Nat)) H Q
def spChild (K : PySem.W.Frag) : Sp := fun vs H Q _ => ∃ (a q : Addr) (xs : List V) (rs : List R) (ms : List Int), vs = [.ref a, .ref q] ∧ SqL K H a xs ∧ Rows K H xs rs ∧ rs.length ≤ 100 ∧ SqT K H q (ms.map V.int) ∧ RetV (.int (if 0 > ((cntLe rs ms : Nat) : Int) - 1 then 0 else ((cntLe rs ms : Nat) : Int) - 1)) H Q

section
variable {P : Program} {w : World} {K : PySem.W.Frag} {mg : Str → Option Value} {base : Heap} {aK : Addr}
theorem ok_place {f : Addr} {fd : FuncData} (F : Fun K "place_of" "place_of" sPlace f fd) (T : Txt mg K aK) : FnOk P w K mg base CX0 1 f fd ["items", "key"] (spPlace K) := by
  refine F.ok scPlace (fun vs H Q E h => ?_) (fun cdv A outer s H vs Q E hr h => ?_)
  · obtain ⟨a, p, xs, rs, ms, rfl, _⟩ := h
    rfl
  · obtain ⟨a, p, xs, rs, ms, rfl, hS, hR, hl, hK, q⟩ := h
    refine ⟨_, (pss_one (ps_ret (pe_callB call_len_seq (by rfl) T.len (by decide +kernel) (pa_cons (pe_lc (own := [("item", 2)]) (g := gName 2) rfl scPlace.nd (pi_list (pv 0)) (blkOk_by (own := [("item", 2)]) (N := ["items", "key", "item"]) (sc := defScope sPlace) (by decide +kernel)) (fun _ _ _ _ _ => pg_name (i := 2) scPlace.nd rfl (Or.inl rfl)) (fun _ _ _ _ _ => (pts_one (pt_cmpR (r := rLtT K) (op_ltT hr.units0) (pe_ix (r := rIxT K) ix_tup (pv 2) pe_int (fun _ _ => rfl)) (pv 1) (nomark _)))) (fun _ _ _ _ _ => (pv 2))) pa_nil)))), ?_⟩
    refine s_ret (ev_is (ev_lenN (el_lcL (fun i => HT.lexLt (rs.getD i ([], [])).1 ms) (fun i => xs.getD i .non) (ev_var rfl) hS (by rw [hR.len]; omega) (fun _ => rfl) (fun i x H1 e1 hx => ?_) (fun i x H1 e1 hx _ => ?_))) (show _ = V.int (cntLt rs ms : Nat) from ?_)) fun H1 e1 => q H1 e1
    · obtain ⟨t, k, v, r, rfl, hr', h1, h2, _⟩ := hR.at hx
      rw [getD_of hr']
      exact et_test (ev_op (ev_op (ev_var rfl) ev_c (rv_ixT (ex_t e1 h1) (atI_nat (j := 0) rfl))) (ev_var rfl) (rv_ltT (ex_t e1 h2) (ex_t e1 hK)))
    · rw [getD_of hx]
      exact ev_var rfl
    · rw [given_length, hR.len]
      rfl
theorem ok_child {f : Addr} {fd : FuncData} (F : Fun K "child_of" "child_of" sChild f fd) (T : Txt mg K aK) : FnOk P w K mg base CX0 1 f fd ["items", "key"] (spChild K) := by
  refine F.ok scChild (fun vs H Q E h => ?_) (fun cdv A outer s H vs Q E hr h => ?_)
  · obtain ⟨a, p, xs, rs, ms, rfl, _⟩ := h
    rfl
  · obtain ⟨a, p, xs, rs, ms, rfl, hS, hR, hl, hK, q⟩ := h
    refine ⟨_, (pss_one (ps_ret (pe_callB (call_max2 rfl) (by rfl) T.max (by decide +kernel) (pa_cons (pe_op op_sub (pe_callB call_len_seq (by rfl) T.len (by decide +kernel) (pa_cons (pe_lc (own := [("item", 2)]) (g := gName 2) rfl scChild.nd (pi_list (pv 0)) (blkOk_by (own := [("item", 2)]) (N := ["items", "key", "item"]) (sc := defScope sChild) (by decide +kernel)) (fun _ _ _ _ _ => pg_name (i := 2) scChild.nd rfl (Or.inl rfl)) (fun _ _ _ _ _ => (pts_one (pt_cmpR (r := rLeT K) (op_leT hr.units0) (pe_ix (r := rIxT K) ix_tup (pv 2) pe_int (fun _ _ => rfl)) (pv 1) (nomark _)))) (fun _ _ _ _ _ => (pv 2))) pa_nil)) pe_int) (pa_cons pe_int pa_nil))))), ?_⟩
    refine s_ret (ev_max2 (ev_op (ev_is (ev_lenN (el_lcL (fun i => leV (rs.getD i ([], [])).1 ms) (fun i => xs.getD i .non) (ev_var rfl) hS (by rw [hR.len]; omega) (fun _ => rfl) (fun i x H1 e1 hx => ?_) (fun i x H1 e1 hx _ => ?_))) (show _ = V.int (cntLe rs ms : Nat) from ?_)) ev_c rv_I0) ev_c) fun H1 e1 => q H1 e1
    · obtain ⟨t, k, v, r, rfl, hr', h1, h2, _⟩ := hR.at hx
      rw [getD_of hr']
      exact et_test (ev_op (ev_op (ev_var rfl) ev_c (rv_ixT (ex_t e1 h1) (atI_nat (j := 0) rfl))) (ev_var rfl) (rv_leT (ex_t e1 h2) (ex_t e1 hK)))
    · rw [getD_of hx]
      exact ev_var rfl
    · rw [given_length, hR.len]
      rfl
end


/-! SPLIT -/
def spSplit (K : PySem.W.Frag) : Sp := fun vs H Q _ => ∃ (a : Addr) (xs : List V) (most : Int), vs = [.ref a, .int most] ∧ SqL K H a xs ∧ xs.length ≤ 100 ∧
  ((xs.length : Int) ≤ most → ∀ (p l : Addr) (H' : Hp), H p = none → H l = none → Ex H H' → H' p = some (.lst [.ref l]) → H' l = some (.lst xs) → Q (.ref p) H') ∧
  (most < (xs.length : Int) → ∀ (p l m : Addr) (H' : Hp), H p = none → H l = none → H m = none → l ≠ m → Ex H H' → H' p = some (.lst [.ref l, .ref m]) → H' l = some (.lst (xs.take ((xs.length + 1) / 2))) → H' m = some (.lst (xs.drop ((xs.length + 1) / 2))) → Q (.ref p) H')
section
variable {P : Program} {w : World} {K : PySem.W.Frag} {mg : Str → Option Value} {base : Heap} {aK : Addr}
theorem ok_split {f : Addr} {fd : FuncData} (F : Fun K "split_items" "split_items" sSplit f fd) (T : Txt mg K aK) : FnOk P w K mg base CX0 1 f fd ["items", "most"] (spSplit K) := by
  refine F.ok scSplit (fun vs H Q E h => ?_) (fun cdv A outer s H vs Q E hr h => ?_)
  · obtain ⟨a, xs, m, rfl, _⟩ := h
    rfl
  · obtain ⟨a, xs, m, rfl, hS, hl, q1, q2⟩ := h
    refine ⟨_, (pss_cons (ps_if (pt_cmpR op_le (pe_callB call_len_seq (by rfl) T.len (by decide +kernel) (pa_cons (pv 0) pa_nil)) (pv 1) (nomark _)) (pss_one (ps_ret (pe_lst (pa_cons (pe_callTy call_list_of (by rfl) T.list (by decide +kernel) (pa_cons (pv 0) pa_nil)) pa_nil)))) pss_nil)
      (pss_cons (ps_set (i := 2) scSplit.nd rfl (Or.inl rfl) (pe_op op_fdiv (pe_op op_add (pe_callB call_len_seq (by rfl) T.len (by decide +kernel) (pa_cons (pv 0) pa_nil)) pe_int) pe_int))
      (pss_one (ps_ret (pe_lst (pa_cons (pe_slice sl_list (pv 0) po_none (po_some (pv 2))) (pa_cons (pe_slice sl_list (pv 0) (po_some (pv 2)) po_none) pa_nil))))))), ?_⟩
    refine q_when (et_test (ev_op (ev_len (ev_var rfl) hS) (ev_var rfl) rv_I0)) (fun hb H1 e1 => ?_) (fun hb H1 e1 => ?_)
    · have hb' := of_decide_eq_true hb
      refine ⟨.ref a, rfl, a, xs, rfl, .inl (ex_l e1 hS), fun y hy => ⟨by show 1 ≤ sizeLine; decide, fun p hp => ?_⟩⟩
      have e2 : Ex H1 (upd H1 y (.lst xs)) := Ex.new hy
      have nyp : y ≠ p := fun z => by
        rw [← z, upd_same] at hp
        cases hp
      refine q1 hb' p y _ (fresh_back (e1.trans e2) hp) (fresh_back e1 hy) ((e1.trans e2).trans (Ex.new hp)) upd_same ?_
      rw [upd_ne nyp, upd_same]
    · have hb' := of_decide_eq_false hb
      refine q_asg (v := .int (((xs.length + 1) / 2 : Nat) : Int)) (ev_is (ev_op (ev_op (ev_len (ev_var rfl) (ex_l e1 hS)) ev_c rv_I0) ev_c (rv_I ⟨by decide, by decide⟩)) (by congr 1)) fun H2 e2 => ?_
      have e12 := e1.trans e2
      refine ⟨.ref a, rfl, _, rfl, _, rfl, a, xs, rfl, ex_l e12 hS, fun y hy => ?_⟩
      have e3 : Ex H2 (upd H2 y (.lst (cutV xs none (some (((xs.length + 1) / 2 : Nat) : Int))))) := Ex.new hy
      refine ⟨.ref a, rfl, _, rfl, _, rfl, a, xs, rfl, ex_l (e12.trans e3) hS, fun z hz => ⟨by show 2 ≤ sizeLine; decide, fun p hp => ?_⟩⟩
      have e4 := Ex.new (o := .lst (cutV xs (some (((xs.length + 1) / 2 : Nat) : Int)) none)) hz
      have nyz : y ≠ z := fun e => by
        rw [← e, upd_same] at hz
        cases hz
      have nzp : z ≠ p := fun e => by
        rw [← e, upd_same] at hp
        cases hp
      have nyp : y ≠ p := fun e => by
        rw [← e, upd_ne nyz, upd_same] at hp
        cases hp
      refine q2 (by omega) p y z _ (fresh_back ((e12.trans e3).trans e4) hp) (fresh_back e12 hy) (fresh_back (e12.trans e3) hz) nyz (((e12.trans e3).trans e4).trans (Ex.new hp)) upd_same ?_ ?_
      · rw [upd_ne nyp, upd_ne nyz, upd_same, cut_to]
      · rw [upd_ne nzp, upd_same, cut_from]
end


end NN

set_option Elab.async false
set_option linter.all false
set_option maxRecDepth 100000
set_option maxHeartbeats 4000000
namespace NR
open PySem PySem.Spec PyProof.Rows L2 Evl LK LT LG LS LQ LX LO LP LV StX SL
def top (i : Nat) : Stmt := PySem.Challenge.pw_laminae_k14_whole_tree_stays_balanced.main.body.getD i (.Pass ⟨0, 0, 0, 0⟩)
abbrev sRn : Stmt := top 48
theorem scRn : FnScope ["store", "pointer"] ["store", "pointer"] (defScope sRn) := ⟨rfl, rfl, rfl, by decide +kernel, rfl, by decide +kernel, by decide +kernel⟩
abbrev sMn : Stmt := top 49
theorem scMn : FnScope ["store", "kind", "items"] ["store", "kind", "items"] (defScope sMn) := ⟨rfl, rfl, rfl, by decide +kernel, rfl, by decide +kernel, by decide +kernel⟩
abbrev sWn : Stmt := top 50
theorem scWn : FnScope ["store", "kind", "items", "pointer"] ["store", "kind", "items", "pointer"] (defScope sWn) := ⟨rfl, rfl, rfl, by decide +kernel, rfl, by decide +kernel, by decide +kernel⟩
abbrev sIi : Stmt := top 51
theorem scIi : FnScope ["items", "pointer"] ["items", "pointer"] (defScope sIi) := ⟨rfl, rfl, rfl, by decide +kernel, rfl, by decide +kernel, by decide +kernel⟩
abbrev sOn : Stmt := top 52
theorem scOn : FnScope ["store", "pointer", "kind", "items", "fresh", "inner", "_"] ["store", "pointer"] (defScope sOn) := ⟨rfl, rfl, rfl, by decide +kernel, rfl, by decide +kernel, by decide +kernel⟩
abbrev sEt : Stmt := top 53
theorem scEt : FnScope ["store"] ["store"] (defScope sEt) := ⟨rfl, rfl, rfl, by decide +kernel, rfl, by decide +kernel, by decide +kernel⟩
abbrev sHk : Stmt := top 54
theorem scHk : FnScope ["items", "at", "key"] ["items", "at", "key"] (defScope sHk) := ⟨rfl, rfl, rfl, by decide +kernel, rfl, by decide +kernel, by decide +kernel⟩
abbrev sLu : Stmt := top 55
theorem scLu : FnScope ["store", "root", "key", "kind", "items", "at"] ["store", "root", "key"] (defScope sLu) := ⟨rfl, rfl, rfl, by decide +kernel, rfl, by decide +kernel, by decide +kernel⟩
abbrev sPu : Stmt := top 56
theorem scPu : FnScope ["store", "root", "key", "value", "parts"] ["store", "root", "key", "value"] (defScope sPu) := ⟨rfl, rfl, rfl, by decide +kernel, rfl, by decide +kernel, by decide +kernel⟩
abbrev sPb : Stmt := top 57
theorem scPb : FnScope ["store", "pointer", "key", "value", "own", "kind", "items", "at", "end"] ["store", "pointer", "key", "value"] (defScope sPb) := ⟨rfl, rfl, rfl, by decide +kernel, rfl, by decide +kernel, by decide +kernel⟩
abbrev sWs : Stmt := top 58
theorem scWs : FnScope ["store", "kind", "items", "pointer", "parts", "written", "part"] ["store", "kind", "items", "pointer"] (defScope sWs) := ⟨rfl, rfl, rfl, by decide +kernel, rfl, by decide +kernel, by decide +kernel⟩
abbrev sTa : Stmt := top 59
theorem scTa : FnScope ["store", "root", "key", "value"] ["store", "root", "key"] (defScope sTa) := ⟨rfl, rfl, rfl, by decide +kernel, rfl, by decide +kernel, by decide +kernel⟩
abbrev sTb : Stmt := top 60
theorem scTb : FnScope ["store", "pointer", "key", "own", "kind", "items", "at"] ["store", "pointer", "key"] (defScope sTb) := ⟨rfl, rfl, rfl, by decide +kernel, rfl, by decide +kernel, by decide +kernel⟩
abbrev sWc : Stmt := top 61
theorem scWc : FnScope ["store", "items", "at", "child", "_", "child_items", "changed"] ["store", "items", "at", "child"] (defScope sWc) := ⟨rfl, rfl, rfl, by decide +kernel, rfl, by decide +kernel, by decide +kernel⟩
abbrev sJc : Stmt := top 62
theorem scJc : FnScope ["store", "items", "at", "first", "second", "kind", "first_items", "_", "second_items", "parts", "joined"] ["store", "items", "at"] (defScope sJc) := ⟨rfl, rfl, rfl, by decide +kernel, rfl, by decide +kernel, by decide +kernel⟩
abbrev sWo : Stmt := top 63
theorem scWo : FnScope ["store", "root", "kind", "items"] ["store", "root"] (defScope sWo) := ⟨rfl, rfl, rfl, by decide +kernel, rfl, by decide +kernel, by decide +kernel⟩
abbrev sRp : Stmt := top 66
theorem scRp : FnScope ["store", "pointer", "is_node", "inside", "inner", "inner_is_node"] ["store", "pointer", "is_node"] (defScope sRp) := ⟨rfl, rfl, rfl, by decide +kernel, rfl, by decide +kernel, by decide +kernel⟩
abbrev sHe : Stmt := top 64
theorem scHe : FnScope ["store", "root", "kind", "items", "steps"] ["store", "root"] (defScope sHe) := ⟨rfl, rfl, rfl, by decide +kernel, rfl, by decide +kernel, by decide +kernel⟩
abbrev sNp : Stmt := top 65
theorem scNp : FnScope ["store", "root", "kind", "items", "found", "_", "child"] ["store", "root"] (defScope sNp) := ⟨rfl, rfl, rfl, by decide +kernel, rfl, by decide +kernel, by decide +kernel⟩
/-! ### trees: what the functions do, as relations -/
open ND (DK Dk St)
open NS (fr cv hv headV)
open NT (Cc Sk Sd ST Fm cont newB fre setM dropD TxT TxH tno)
open NN (R Rows asc most ptr Wf ptrs cntLt cntLe)
def Nn (rs : List R) : Prop := ∀ r ∈ rs, (∀ z ∈ r.1, 0 ≤ z) ∧ ∀ z ∈ r.2, 0 ≤ z
/-- block n holds a node -/
structure Nd (k : Sk) (d : Sd) (n : Nat) (kd : Int) (rs : List R) : Prop where
  h5 : 5 ≤ n
  hn : n < k.n
  hk : kd = 1 ∨ kd = 2
  c : ∃ p b, cont k d n = NN.blk kd rs p b ∧ ptr p b = true
  wf : Wf kd rs
  m : (rs.length : Int) ≤ most kd
  a : asc rs = true
  p : ptrs kd rs
/-- these items may be written as a node -/
structure Wn (kd : Int) (rs : List R) : Prop where
  hk : kd = 1 ∨ kd = 2
  wf : Wf kd rs
  m : (rs.length : Int) ≤ most kd
  a : asc rs = true
  nn : Nn rs
def Mk (k : Sk) (d : Sd) (kd : Int) (rs : List R) (d' : Sd) (n : Nat) : Prop := Wn kd rs ∧ d.r < fre k d ∧ headV (fr d.cs k.hs false) = .int (n : Int) ∧ n < k.n ∧ d' = { d with cs := d.cs.set n 1, mem := setM d.mem n (some (NN.blk kd rs (n : Int) (k.g + 1))) }
def Wr (k : Sk) (d : Sd) (kd : Int) (rs : List R) (n : Nat) (b : Int) (d' : Sd) : Prop := Wn kd rs ∧ 0 ≤ b ∧ n < k.n ∧ newB k d n = true ∧ d' = { d with mem := setM d.mem n (some (NN.blk kd rs (n : Int) b)) }
inductive Own (k : Sk) : Sd → Nat → Int → Sd → Nat → Int → Prop
  | new {d : Sd} {n : Nat} {b : Int} (hn : n < k.n) (h : newB k d n = true) : Own k d n b d n b
def half (rs : List R) : Nat := (rs.length + 1) / 2
abbrev k0 (rs : List R) : List Int := NN.key rs 0
inductive Ws (k : Sk) : Sd → Int → List R → Nat → Int → Sd → List R → Prop
  | one {d d' : Sd} {kd : Int} {rs : List R} {n : Nat} {b : Int} (h : (rs.length : Int) ≤ most kd) (ne : rs ≠ []) (w : Wr k d kd rs n b d') : Ws k d kd rs n b d' [(k0 rs, [(n : Int), b])]
  | two {d d1 d2 : Sd} {kd : Int} {rs : List R} {n n2 : Nat} {b : Int} (h : most kd < (rs.length : Int)) (hl : rs.length ≤ 90) (w : Wr k d kd (rs.take (half rs)) n b d1) (mk : Mk k d1 kd (rs.drop (half rs)) d2 n2) : Ws k d kd rs n b d2 [(k0 (rs.take (half rs)), [(n : Int), b]), (k0 (rs.drop (half rs)), [(n2 : Int), k.g + 1])]
def hasKey (rs : List R) (i : Nat) (ks : List Int) : Bool := decide (i < rs.length) && decide (NN.key rs i = ks)
def insL (rs : List R) (ks vs : List Int) : List R := rs.take (cntLt rs ks) ++ [(ks, vs)] ++ rs.drop (if hasKey rs (cntLt rs ks) ks then cntLt rs ks + 1 else cntLt rs ks)
def chI (rs : List R) (ks : List Int) : Nat := cntLe rs ks - 1
inductive PutB (k : Sk) (ks vs : List Int) : Nat → Sd → Nat → Int → Sd → List R → Prop
  | leaf {l : Nat} {d d1 d2 : Sd} {n n1 : Nat} {b b1 : Int} {rs ps : List R} (o : Own k d n b d1 n1 b1) (nd : Nd k d1 n1 1 rs) (w : Ws k d1 1 (insL rs ks vs) n1 b1 d2 ps) : PutB k ks vs (l + 1) d n b d2 ps
  | inner {l : Nat} {d d1 d2 d3 : Sd} {n n1 cn : Nat} {b b1 cb : Int} {rs cs ps : List R} {ck : List Int} (o : Own k d n b d1 n1 b1) (nd : Nd k d1 n1 2 rs) (hc : rs[chI rs ks]? = some (ck, [(cn : Int), cb])) (p : PutB k ks vs l d1 cn cb d2 cs) (hl : cs.length ≤ 10) (w : Ws k d2 2 (rs.take (chI rs ks) ++ cs ++ rs.drop (chI rs ks + 1)) n1 b1 d3 ps) : PutB k ks vs (l + 1) d n b d3 ps
inductive Put (k : Sk) (ks vs : List Int) (l : Nat) (d : Sd) (n : Nat) (b : Int) : Sd → Nat → Int → Prop
  | one {d' : Sd} {n' : Nat} {b' : Int} {k' : List Int} (p : PutB k ks vs l d n b d' [(k', [(n' : Int), b'])]) : Put k ks vs l d n b d' n' b'
  | two {d1 d2 : Sd} {n2 : Nat} {ps : List R} (p : PutB k ks vs l d n b d1 ps) (h : ps.length ≠ 1) (hl : ps.length ≤ 10) (m : Mk k d1 2 ps d2 n2) : Put k ks vs l d n b d2 n2 (k.g + 1)
inductive Lk (k : Sk) (d : Sd) (ks : List Int) : Nat → Nat → Option (List Int) → Prop
  | leaf {l n : Nat} {rs : List R} (nd : Nd k d n 1 rs) : Lk k d ks (l + 1) n (if hasKey rs (cntLt rs ks) ks then some (rs.getD (cntLt rs ks) ([], [])).2 else none)
  | inner {l n cn : Nat} {cb : Int} {rs : List R} {ck : List Int} {o : Option (List Int)} (nd : Nd k d n 2 rs) (hc : rs[chI rs ks]? = some (ck, [(cn : Int), cb])) (h : Lk k d ks l cn o) : Lk k d ks (l + 1) n o
inductive Join (k : Sk) : Sd → List R → Nat → Sd → List R → Prop
  | one {d d1 d2 d3 : Sd} {rs r1 r2 : List R} {i n1 n2 m1 m2 : Nat} {b1 b2 c1 c2 kd kd2 : Int} {k1 k2 : List Int} (h1 : rs[i]? = some (k1, [(n1 : Int), b1])) (h2 : rs[i + 1]? = some (k2, [(n2 : Int), b2])) (o1 : Own k d n1 b1 d1 m1 c1) (o2 : Own k d1 n2 b2 d2 m2 c2) (a1 : Nd k d2 m1 kd r1) (a2 : Nd k d2 m2 kd2 r2)
      (hm : ((r1 ++ r2).length : Int) ≤ most kd) (ne : r1 ++ r2 ≠ []) (w : Wr k d2 kd (r1 ++ r2) m1 c1 d3) (h5 : 5 ≤ m2) (hn : m2 < k.n) (h0 : cv d3.cs m2 ≠ 0) : Join k d rs i (dropD d3 m2) (rs.take i ++ [(k0 (r1 ++ r2), [(m1 : Int), c1])] ++ rs.drop (i + 2))
  | two {d d1 d2 d3 d4 : Sd} {rs r1 r2 : List R} {i n1 n2 m1 m2 : Nat} {b1 b2 c1 c2 kd kd2 : Int} {k1 k2 : List Int} (h1 : rs[i]? = some (k1, [(n1 : Int), b1])) (h2 : rs[i + 1]? = some (k2, [(n2 : Int), b2])) (o1 : Own k d n1 b1 d1 m1 c1) (o2 : Own k d1 n2 b2 d2 m2 c2) (a1 : Nd k d2 m1 kd r1) (a2 : Nd k d2 m2 kd2 r2)
      (hm : most kd < ((r1 ++ r2).length : Int)) (w1 : Wr k d2 kd ((r1 ++ r2).take (half (r1 ++ r2))) m1 c1 d3) (w2 : Wr k d3 kd ((r1 ++ r2).drop (half (r1 ++ r2))) m2 c2 d4) : Join k d rs i d4 (rs.take i ++ [(k0 ((r1 ++ r2).take (half (r1 ++ r2))), [(m1 : Int), c1]), (k0 ((r1 ++ r2).drop (half (r1 ++ r2))), [(m2 : Int), c2])] ++ rs.drop (i + 2))
inductive WithC (k : Sk) : Sd → List R → Nat → Nat → Int → Sd → List R → Prop
  | ok {d : Sd} {rs cr : List R} {i cn : Nat} {cb kd : Int} (nd : Nd k d cn kd cr) (h : 2 ≤ cr.length) : WithC k d rs i cn cb d (rs.take i ++ [(k0 cr, [(cn : Int), cb])] ++ rs.drop (i + 1))
  | join {d d' : Sd} {rs cr rs' : List R} {i cn : Nat} {cb kd : Int} (nd : Nd k d cn kd cr) (h : cr.length = 1) (j : Join k d (rs.take i ++ [(k0 cr, [(cn : Int), cb])] ++ rs.drop (i + 1)) (i - 1) d' rs') : WithC k d rs i cn cb d' rs'
inductive TakeB (k : Sk) (ks : List Int) : Nat → Sd → Nat → Int → Sd → Nat → Int → Prop
  | leaf {l : Nat} {d d1 d2 : Sd} {n n1 : Nat} {b b1 : Int} {rs : List R} (o : Own k d n b d1 n1 b1) (nd : Nd k d1 n1 1 rs) (h : cntLt rs ks < rs.length) (w : Wr k d1 1 (rs.eraseIdx (cntLt rs ks)) n1 b1 d2) : TakeB k ks (l + 1) d n b d2 n1 b1
  | inner {l : Nat} {d d1 d2 d3 d4 : Sd} {n n1 cn cn' : Nat} {b b1 cb cb' : Int} {rs rs' : List R} {ck : List Int} (o : Own k d n b d1 n1 b1) (nd : Nd k d1 n1 2 rs) (hc : rs[chI rs ks]? = some (ck, [(cn : Int), cb])) (t : TakeB k ks l d1 cn cb d2 cn' cb') (w : WithC k d2 rs (chI rs ks) cn' cb' d3 rs') (hl : rs'.length ≤ 90) (wr : Wr k d3 2 rs' n1 b1 d4) : TakeB k ks (l + 1) d n b d4 n1 b1
inductive Wor (k : Sk) : Nat → Sd → Nat → Int → Sd → Nat → Int → Prop
  | stop {l : Nat} {d : Sd} {n : Nat} {b kd : Int} {rs : List R} (nd : Nd k d n kd rs) (h : ¬ (kd = 2 ∧ rs.length = 1)) : Wor k (l + 1) d n b d n b
  | go {l : Nat} {d d' : Sd} {n cn n' : Nat} {b cb b' : Int} {ck : List Int} (nd : Nd k d n 2 [(ck, [(cn : Int), cb])]) (h0 : cv d.cs n ≠ 0) (w : Wor k l (dropD d n) cn cb d' n' b') : Wor k (l + 1) d n b d' n' b'

end NR

set_option Elab.async false
set_option linter.all false
set_option maxRecDepth 100000
set_option maxHeartbeats 4000000
namespace NR
open PySem PySem.Spec PyProof.Rows L2 Evl LK LT LG LS LQ LX LO LP LV StX SL
open ND (DK Dk St)
open NS (fr cv hv headV)
open NT (Cc Sk Sd ST Fm cont newB fre setM dropD TxT TxH tno)
open NN (R Rows asc most ptr Wf ptrs cntLt cntLe)
/-! ### what stands while trees change -/
def FT (H H1 : Hp) : Prop := ∀ (a : Addr) (o : HO), H a = some o → (∀ C dx fs, o ≠ .ins C dx fs) → (∀ xs, o ≠ .lst xs) → (∀ kv, o ≠ .dK kv) → H1 a = some o
section
variable {K : PySem.W.Frag} {c : Cc} {G G' H H1 H2 : Hp} {q a : Addr} {k : Sk} {d d' : Sd}
theorem FT.of (e : Ex H H1) : FT H H1 := fun a o h _ _ _ => e a o h
theorem FT.trans (e : FT H H1) (f : FT H1 H2) : FT H H2 := fun a o h n1 n2 n3 => f a o (e a o h n1 n2 n3) n1 n2 n3
theorem FT.t {xs : List V} (e : FT H H1) (h : H a = some (.tup xs)) : H1 a = some (.tup xs) := e _ _ h (fun _ _ _ z => by cases z) (fun _ z => by cases z) (fun _ z => by cases z)
theorem FT.sq {xs : List V} (e : FT H H1) (h : SqT K H a xs) : SqT K H1 a xs := by
  rcases h with (h | ⟨o, h⟩) | h
  · exact Or.inl (Or.inl (e.t h))
  · exact Or.inl (Or.inr ⟨o, e _ _ h (fun _ _ _ z => by cases z) (fun _ z => by cases z) (fun _ z => by cases z)⟩)
  · exact Or.inr h
theorem FT.tab (e : FT H H1) (h : Tab H a) : Tab H1 a := e _ _ h (fun _ _ _ z => by cases z) (fun _ z => by cases z) (fun _ z => by cases z)
theorem FT.rows (e : FT H H1) : ∀ {xs : List V} {rs : List R}, Rows K H xs rs → Rows K H1 xs rs
  | _, _, .nil => .nil
  | _, _, .cons a b c r => .cons (e.t a) (e.t b) (e.t c) (e.rows r)
theorem ft_of (S : ST c G H q k d) (F : Fm H H1 q k) : FT H H1 := fun a o h n1 n2 n3 => F a o h (fun z => by
  obtain ⟨dx, ho⟩ := S.o
  rw [z, ho] at h
  exact n1 _ _ _ (Option.some.inj h).symm) (fun z => by
  have hc := S.c
  rw [z, hc] at h
  exact n2 _ (Option.some.inj h).symm) (fun z => by
  obtain ⟨kv, hm, _⟩ := S.mm
  rw [z, hm] at h
  exact n3 _ (Option.some.inj h).symm)
/-- a list that was made later than the store's own things -/
theorem ST.ne (S : ST c G H q k d) (h : H a = none) : a ≠ q ∧ a ≠ k.cl ∧ a ≠ k.m := by
  obtain ⟨a1, a2, a3⟩ := S.al
  exact ⟨fun z => a1 (by rw [← z]; exact h), fun z => a2 (by rw [← z]; exact h), fun z => a3 (by rw [← z]; exact h)⟩
end
structure W3 (c : Cc) (Pt Pf Pw : Addr) (G H : Hp) (q : Addr) (k : Sk) (d : Sd) : Prop where
  st : ST c G H q k d
  r0 : 0 ≤ d.r
  g0 : 0 ≤ k.g
  t1 : Tab H Pt
  t2 : Tab H Pf
  t3 : Tab H Pw
section
variable {c : Cc} {Pt Pf Pw : Addr} {G G' H H1 : Hp} {q : Addr} {k : Sk} {d d' : Sd}
theorem W3.ex (w : W3 c Pt Pf Pw G H q k d) (e : Ex H H1) : W3 c Pt Pf Pw G H1 q k d := ⟨w.st.ex e, w.r0, w.g0, w.t1.mono e, w.t2.mono e, w.t3.mono e⟩
theorem W3.ch (w : W3 c Pt Pf Pw G H q k d) (f : FT H H1) (s : ST c G' H1 q k d') (r : d'.r = d.r) : W3 c Pt Pf Pw G' H1 q k d' := ⟨s, by rw [r]; exact w.r0, w.g0, f.tab w.t1, f.tab w.t2, f.tab w.t3⟩
end
/-- after a change of the store -/
def Po (c : Cc) (G H : Hp) (q : Addr) (k : Sk) (d' : Sd) (R : Hp → V → Prop) (Q : VK) : Prop := ∀ (G' H1 : Hp) (v : V), St G H G' H1 → Fm H H1 q k → ST c G' H1 q k d' → R H1 v → Q v H1
def PtR (n : Nat) (b : Int) (H : Hp) (v : V) : Prop := ∃ t, v = .ref t ∧ H t = some (.tup [.int (n : Int), .int b])
def LsR (K : PySem.W.Frag) (H0 : Hp) (rs : List R) (H : Hp) (v : V) : Prop := ∃ p xs, v = .ref p ∧ H0 p = none ∧ H p = some (.lst xs) ∧ Rows K H xs rs
def spIi (K : PySem.W.Frag) : Sp := fun vs H Q _ => ∃ (a t : Addr) (xs : List V) (rs : List R), vs = [.ref a, .ref t] ∧ SqL K H a xs ∧ Rows K H xs rs ∧ rs ≠ [] ∧ ∀ u kk H1, H u = none → Ex H H1 → H1 u = some (.tup [.ref kk, .ref t]) → H1 kk = some (.tup ((k0 rs).map V.int)) → Q (.ref u) H1
def spHk (K : PySem.W.Frag) : Sp := fun vs H Q _ => ∃ (a kq : Addr) (i : Nat) (xs : List V) (rs : List R) (ks : List Int), vs = [.ref a, .int (i : Int), .ref kq] ∧ SqL K H a xs ∧ Rows K H xs rs ∧ SqT K H kq (ks.map V.int) ∧ RetV (.bl (hasKey rs i ks)) H Q
def spRn (K : PySem.W.Frag) (c : Cc) (Pt Pf Pw : Addr) : Sp := fun vs H Q _ => ∃ (G : Hp) (q : Addr) (k : Sk) (d : Sd) (t : Addr) (n : Nat) (ys : List V) (kd : Int) (rs : List R), vs = [.ref q, .ref t] ∧ W3 c Pt Pf Pw G H q k d ∧ H t = some (.tup (.int (n : Int) :: ys)) ∧ Nd k d n kd rs ∧
  ∀ tu l xs H1, H tu = none → H l = none → Ex H H1 → H1 tu = some (.tup [.int kd, .ref l]) → H1 l = some (.lst xs) → Rows K H1 xs rs → Q (.ref tu) H1
def spMn (K : PySem.W.Frag) (c : Cc) (Pt Pf Pw : Addr) : Sp := fun vs H Q _ => ∃ (G : Hp) (q : Addr) (k : Sk) (d : Sd) (kd : Int) (a : Addr) (xs : List V) (rs : List R) (d' : Sd) (n : Nat), vs = [.ref q, .int kd, .ref a] ∧ W3 c Pt Pf Pw G H q k d ∧ SqL K H a xs ∧ Rows K H xs rs ∧ Mk k d kd rs d' n ∧ Po c G H q k d' (PtR n (k.g + 1)) Q
def spWn (K : PySem.W.Frag) (c : Cc) (Pt Pf Pw : Addr) : Sp := fun vs H Q _ => ∃ (G : Hp) (q : Addr) (k : Sk) (d : Sd) (kd : Int) (a t : Addr) (xs : List V) (rs : List R) (n : Nat) (b : Int) (d' : Sd), vs = [.ref q, .int kd, .ref a, .ref t] ∧ W3 c Pt Pf Pw G H q k d ∧ H a = some (.lst xs) ∧ a ≠ k.cl ∧ Rows K H xs rs ∧ rs ≠ [] ∧ H t = some (.tup [.int (n : Int), .int b]) ∧ Wr k d kd rs n b d' ∧
  Po c G H q k d' (fun H1 v => ∃ u kk, v = .ref u ∧ H1 u = some (.tup [.ref kk, .ref t]) ∧ H1 kk = some (.tup ((k0 rs).map V.int))) Q
def spOn (c : Cc) (Pt Pf Pw : Addr) : Sp := fun vs H Q _ => ∃ (G : Hp) (q : Addr) (k : Sk) (d : Sd) (t : Addr) (n : Nat) (b : Int) (d' : Sd) (n' : Nat) (b' : Int), vs = [.ref q, .ref t] ∧ W3 c Pt Pf Pw G H q k d ∧ H t = some (.tup [.int (n : Int), .int b]) ∧ Own k d n b d' n' b' ∧ Po c G H q k d' (PtR n' b') Q
def spNo : Sp := fun _ _ _ _ => False
theorem eqva_ints : ∀ (a b : List Int), PyData.eqvAll (a.map PyData.int) (b.map PyData.int) = decide (a = b)
  | [], [] => by simp [PyData.eqvAll]
  | [], _ :: _ => by simp [PyData.eqvAll]
  | _ :: _, [] => by simp [PyData.eqvAll]
  | x :: a, y :: b => by
    simp only [List.map_cons, PyData.eqvAll, eqva_ints a b, PyData.eqv]
    rw [Bool.eq_iff_iff]
    simp
theorem eqvt_ints (a b : List Int) : PyData.eqv (.tuple (a.map PyData.int)) (.tuple (b.map PyData.int)) = decide (a = b) := by
  simp only [PyData.eqv, eqva_ints]
theorem dp_tupi {K : PySem.W.Frag} {H : Hp} {a : Addr} {ns : List Int} (h : SqT K H a (ns.map V.int)) : Dp K H (.ref a) (.tuple (ns.map PyData.int)) := .tup h (dp_ints ns)
theorem row0 {K : PySem.W.Frag} {H : Hp} {xs : List V} {rs : List R} (h : Rows K H xs rs) {i : Nat} (hi : i < rs.length) : ∃ t kk vv, xs[i]? = some (.ref t) ∧ H t = some (.tup [.ref kk, .ref vv]) ∧ H kk = some (.tup ((NN.key rs i).map V.int)) ∧ H vv = some (.tup ((rs.getD i ([], [])).2.map V.int)) := by
  have hx : i < xs.length := by rw [h.len]; exact hi
  obtain ⟨t, kk, vv, r, e1, e2, h1, h2, h3⟩ := h.atT (List.getElem?_eq_getElem hx)
  refine ⟨t, kk, vv, by rw [List.getElem?_eq_getElem hx, e1], h1, ?_, ?_⟩
  · unfold NN.key
    rw [List.getD_eq_getElem?_getD, e2]
    exact h2
  · rw [List.getD_eq_getElem?_getD, e2]
    exact h3
section
variable {P : Program} {w : World} {K : PySem.W.Frag} {mg : Str → Option Value} {base : Heap} {c : Cc} {CN CE CO Pt Pf Pw aK : Addr}
theorem fn_no {f : Addr} {fd : FuncData} {x qual : Str} {st : Stmt} {N ps : List Str} {k : Nat} (F : Fun K x qual st f fd) (S : FnScope N ps (defScope st)) : FnOk P w K mg base CX0 (k + 1) f fd ps spNo := F.ok S (fun _ _ _ _ h => h.elim) (fun _ _ _ _ _ _ _ _ _ h => h.elim)
theorem ok_ii {f : Addr} {fd : FuncData} (F : Fun K "inner_item" "inner_item" sIi f fd) : FnOk P w K mg base CX0 1 f fd ["items", "pointer"] (spIi K) := by
  refine F.ok scIi (fun vs H Q E h => ?_) (fun cdv A outer s H vs Q E hr h => ?_)
  · obtain ⟨a, t, xs, rs, rfl, _⟩ := h
    rfl
  · obtain ⟨a, t, xs, rs, rfl, hS, hR, hne, q⟩ := h
    refine ⟨_, (pss_one (ps_ret (pe_tup (pa_cons (pe_ix ix_tup (pe_ix ix_list (pv 0) pe_int (fun _ _ => rfl)) pe_int (fun _ _ => rfl)) (pa_cons (pv 1) pa_nil))))), ?_⟩
    obtain ⟨t0, kk, vv, e1, h1, h2, h3⟩ := row0 hR (i := 0) (List.length_pos_iff.mpr hne)
    exact s_retU (eu_tup (ea_cons (ev_op (ev_op (ev_var rfl) ev_c (rv_ixL hS (atI_nat (j := 0) e1))) ev_c (rv_ixT (st_of h1) (atI_nat (j := 0) rfl))) (ea_cons (ev_var rfl) ea_nil)) (Nat.le_of_ble_eq_true rfl)) fun u H1 hu e g => q u kk H1 hu e g (e _ _ h2)
theorem ok_hk {f : Addr} {fd : FuncData} (F : Fun K "has_key_at" "has_key_at" sHk f fd) (T : NN.Txt mg K aK) : FnOk P w K mg base CX0 1 f fd ["items", "at", "key"] (spHk K) := by
  refine F.ok scHk (fun vs H Q E h => ?_) (fun cdv A outer s H vs Q E hr h => ?_)
  · obtain ⟨a, kq, i, xs, rs, ks, rfl, _⟩ := h
    rfl
  · obtain ⟨a, kq, i, xs, rs, ks, rfl, hS, hR, hK, q⟩ := h
    refine ⟨_, (pss_one (ps_ret (pe_and (pe_cmpR op_lt (pv 1) (pe_callB call_len_seq (by rfl) T.len (by decide +kernel) (pa_cons (pv 0) pa_nil)) (nomark _)) (pe_one (pe_cmpR (op_eqD hr.units) (pe_ix ix_tup (pe_ix ix_list (pv 0) (pv 1) (fun _ _ => rfl)) pe_int (fun _ _ => rfl)) (pv 2) (nomark _)))))), ?_⟩
    refine s_ret (ev_is (ev_andV (a := decide (i < rs.length)) (b := decide (NN.key rs i = ks)) (ev_is (ev_op (ev_var rfl) (ev_len (ev_var rfl) hS) rv_I0) (by rw [hR.len]; exact congrArg V.bl (decide_eq_decide.mpr Int.ofNat_lt))) (fun hb => ?_)) rfl) fun H1 e1 => q H1 e1
    obtain ⟨t0, kk, vv, e1, h1, h2, h3⟩ := row0 hR (i := i) (of_decide_eq_true hb)
    exact ev_is (ev_op (ev_op (ev_op (ev_var rfl) (ev_var rfl) (rv_ixL hS (atI_nat e1))) ev_c (rv_ixT (st_of h1) (atI_nat (j := 0) rfl))) (ev_var rfl) (rv_eqDD (dp_tupi (st_of h2)) (dp_tupi hK) (sh_tup (sh_ints _)) (sh_tup (sh_ints _)) (by decide))) (by rw [eqvt_ints])
theorem ok_rn {f fF fR : Addr} {fd fdF fdR : FuncData} (F : Fun K "read_node" "read_node" sRn f fd) (FFb : Fun K "from_block" "from_block" NN.sFrom fF fdF) (GFb : FnOk P w K mg base CX0 2 fF fdF ["block"] (NN.spFrom K Pt Pf)) (bFb : Binds K fdF ["block"] []) (gFb : mg "from_block" = some (.ref fF))
    (Gread : FnOk P w K mg base (L2.CX P w) 5 fR fdR ["self", "pointer"] (NT.spRead c CN)) (bread : Binds K fdR ["self", "pointer"] []) (mread : Meth K c.T "read" fR) (TT : TxT mg K c.T) : FnOk P w K mg base CX0 6 f fd ["store", "pointer"] (spRn K c Pt Pf Pw) := by
  refine F.ok scRn (fun vs H Q E h => ?_) (fun cdv A outer s H vs Q E hr h => ?_)
  · obtain ⟨G, q, k, d, t, n, ys, kd, rs, rfl, _⟩ := h
    rfl
  · obtain ⟨G, q, k, d, t, n, ys, kd, rs, rfl, W, ht, N, qq⟩ := h
    refine ⟨_, (pss_one (ps_ret (pe_call GFb (hr.mono (by omega)) (by rfl) gFb FFb.kp bFb .nil pass0 (pa_cons (pe_meth (pv 0) TT.cl mread Gread (hr.mono (by omega)) bread .nil passL (pa_cons (pv 1) pa_nil)) pa_nil)))), ?_⟩
    obtain ⟨dx, ho⟩ := W.st.o
    obtain ⟨p, b, hc, hp⟩ := N.c
    refine m_run (Q := fun v H1 => NN.spFrom K Pt Pf [v] H1 Q E0) (ev_var rfl) ho (tno (.inr (.inr (.inr (.inr (.inl rfl)))))) (ea_cons (ev_var rfl) ea_nil) fun H1 e1 => ⟨G, q, k, d, t, n, ys, rfl, W.st.ex e1, e1 _ _ ht, fun i hi h5 hn w H2 hw e2 h2 => ?_, fun hno => absurd ⟨by have := N.h5; omega, by have := N.hn; omega⟩ hno⟩
    have : i = n := by omega
    subst this
    rw [hc] at h2
    have e12 := e1.trans e2
    exact ⟨kd, w, rs, p, b, rfl, N.hk, sq_of h2, N.wf, N.m, N.a, hp, N.p, W.t1.mono e12, W.t2.mono e12, fun tu l xs H3 htu hl e3 g1 g2 g3 => qq tu l xs H3 (fresh_back e12 htu) (fresh_back e12 hl) (e12.trans e3) g1 g2 g3⟩
end

end NR

set_option Elab.async false
set_option linter.all false
set_option maxRecDepth 100000
set_option maxHeartbeats 4000000
namespace NR
open PySem PySem.Spec PyProof.Rows L2 Evl LK LT LG LS LQ LX LO LP LV StX SL
open ND (DK Dk St)
open NS (fr cv hv headV)
open NT (Cc Sk Sd ST Fm cont newB fre setM dropD TxT TxH tno)
open NN (R Rows asc most ptr Wf ptrs cntLt cntLe)
theorem blk_len {kd : Int} {rs : List R} {n b : Int} (w : Wn kd rs) : (NN.blk kd rs n b).length = 32 := by
  have h := NN.body_fits w.hk w.wf w.m
  unfold NN.blk
  simp only [List.length_cons, List.length_append, List.length_replicate]
  omega
theorem blk_nn {kd : Int} {rs : List R} {n b : Int} (w : Wn kd rs) (hn : 0 ≤ n) (hb : 0 ≤ b) : ∀ z ∈ NN.blk kd rs n b, 0 ≤ z := fun z hz => by
  unfold NN.blk at hz
  simp only [List.mem_cons, List.mem_append, List.mem_replicate] at hz
  rcases hz with rfl | rfl | rfl | rfl | hz | ⟨_, rfl⟩
  · rcases w.hk with rfl | rfl <;> decide
  · omega
  · exact hn
  · exact hb
  · unfold NN.body at hz
    obtain ⟨r, hr, hz⟩ := List.mem_flatMap.mp hz
    rcases List.mem_append.mp hz with h | h
    · exact (w.nn r hr).1 z h
    · exact (w.nn r hr).2 z h
  · exact Int.le_refl 0
theorem okB_blk {kd : Int} {rs : List R} {n b : Int} (w : Wn kd rs) (hn : 0 ≤ n) (hb : 0 ≤ b) : NT.okB ((NN.blk kd rs n b).map V.int) := ⟨_, rfl, blk_len w, blk_nn w hn hb⟩
theorem Fm.l {c : Cc} {G H H1 : Hp} {q a : Addr} {k : Sk} {d : Sd} {xs : List V} (S : ST c G H q k d) (F : Fm H H1 q k) (h : H a = some (.lst xs)) (n : a ≠ k.cl) : H1 a = some (.lst xs) := by
  obtain ⟨dx, ho⟩ := S.o
  obtain ⟨kv, hm, _⟩ := S.mm
  exact F _ _ h (ne_of h ho (by intro z; cases z)) n (ne_of h hm (by intro z; cases z))
theorem St.go {G G' H H1 H2 : Hp} (s : ND.St G H G' H1) (e : Ex H1 H2) : ND.St G H G' H2 := s.trans (NT.St.of e)
theorem St.pre {G G' H H1 H2 : Hp} (e : Ex H H1) (s : ND.St G H1 G' H2) : ND.St G H G' H2 := (NT.St.of e).trans s
theorem Fm.pre {H H1 H2 : Hp} {q : Addr} {k : Sk} (e : Ex H H1) (f : Fm H1 H2 q k) : Fm H H2 q k := (NT.Fm.of e).trans f
theorem Fm.go {H H1 H2 : Hp} {q : Addr} {k : Sk} (f : Fm H H1 q k) (e : Ex H1 H2) : Fm H H2 q k := f.trans (NT.Fm.of e)
section
variable {K : PySem.W.Frag} {σ : L2.St} {H : Hp} {D : Ends} {sp : Sp} {E : XK} {tA : TA} {tz : TS} {vs : List V}
/-- x, y = f(..) -/
theorem q_unpC {i j : Nat} (h : EvA tA σ H vs) (k : ∀ H1, Ex H H1 → sp vs H1 (fun v H2 => ∃ t x y, v = .ref t ∧ H2 t = some (.tup [x, y]) ∧ tz D ((σ.set i (some x)).set j (some y)) H2) E) (mono : ∀ H1 (Q Q' : VK), (∀ v H2, Q v H2 → Q' v H2) → sp vs H1 Q E → sp vs H1 Q' E) : tSeq (tAsg (tCall sp [] E tA) (gTup K 2 (gCons (gName i) (gCons (gName j) gNil)))) tz D σ H :=
  h H (Ex.refl _) _ fun H1 e1 => by
    rw [List.append_nil]
    refine mono H1 _ _ (fun v H2 hv => ?_) (k H1 e1)
    obtain ⟨t, x, y, rfl, ht, hz⟩ := hv
    exact ⟨t, [x, y], rfl, st_of ht, rfl, x, [y], rfl, y, [], rfl, rfl, hz⟩
theorem s_unpC {i j : Nat} (h : EvA tA σ H vs) (k : ∀ H1, Ex H H1 → sp vs H1 (fun v H2 => ∃ t x y, v = .ref t ∧ H2 t = some (.tup [x, y]) ∧ D.nx ((σ.set i (some x)).set j (some y)) H2) E) (mono : ∀ H1 (Q Q' : VK), (∀ v H2, Q v H2 → Q' v H2) → sp vs H1 Q E → sp vs H1 Q' E) : tAsg (tCall sp [] E tA) (gTup K 2 (gCons (gName i) (gCons (gName j) gNil))) D σ H :=
  q_unpC (tz := fun D' => D.nx) (D := { D with nx := D.nx }) h k mono
/-- x = [f(..)] -/
theorem q_lstC {i : Nat} (h : EvA tA σ H vs) (k : ∀ H1, Ex H H1 → sp vs H1 (fun v H2 => [v].length ≤ sizeLine ∧ ∀ L, H2 L = none → tz D (σ.set i (some (.ref L))) (upd H2 L (.lst [v]))) E) : tSeq (tAsg (tLst (tCons (tCall sp [] E tA) tNil)) (gName i)) tz D σ H :=
  h H (Ex.refl _) _ fun H1 e1 => by
    rw [List.append_nil]
    exact k H1 e1
theorem q_for0 {tl : TE} {g : TG} {tu : TS} (h : EvL tl σ H []) (k : ∀ H1, Ex H H1 → tz D σ H1) : tSeq (tFor (iList K tl) g tu) tz D σ H :=
  q_forNL h (fun p i σ' B => σ' = σ ∧ Ex H B ∧ B p = some (.lst [])) (fun p B hp e g => ⟨rfl, e, g⟩) (fun p i σ' B _ h => sq_of h.2.2) (fun p i x σ' B hx => by cases hx) (fun p σ' B h => by rw [h.1]; exact k B h.2.1)
theorem q_for1 {tl : TE} {j : Nat} {tu : TS} {x : V} (h : EvL tl σ H [x]) (k : ∀ p H1, H p = none → Ex H H1 → H1 p = some (.lst [x]) → tu { D with nx := fun σ2 H2 => H2 p = some (.lst [x]) ∧ tz D σ2 H2, ct := fun σ2 H2 => H2 p = some (.lst [x]) ∧ tz D σ2 H2, bk := tz D } (σ.set j (some x)) H1) : tSeq (tFor (iList K tl) (gName j) tu) tz D σ H :=
  q_forNLn h (fun p i σ' B => (i = 0 → H p = none ∧ σ' = σ ∧ Ex H B) ∧ B p = some (.lst [x]) ∧ (i = 1 → tz D σ' B)) (fun p B hp e g => ⟨fun _ => ⟨hp, rfl, e⟩, g, fun z => by cases z⟩) (fun p i σ' B _ h => sq_of h.2.1) (fun p i y σ' B hx h => by
    have hi : i = 0 := by
      have := (List.getElem?_eq_some_iff.mp hx).1
      simp at this
      exact this
    subst hi
    cases hx
    obtain ⟨hp, rfl, e⟩ := h.1 rfl
    have e1 : (fun σ2 H2 => H2 p = some (.lst [x]) ∧ tz D σ2 H2) = (fun (σ' : L2.St) (B : Hp) => ((0 + 1 = 0 → H p = none ∧ σ' = σ' ∧ Ex H B) ∧ B p = some (.lst [x]) ∧ (0 + 1 = 1 → tz D σ' B))) := funext fun σ2 => funext fun H2 => propext ⟨fun z => ⟨fun z => (by cases z), z.1, fun _ => z.2⟩, fun z => ⟨z.2.1, z.2.2 rfl⟩⟩
    have e2 : (fun (σ2 : L2.St) (B : Hp) => ((0 + 1 = 0 → H p = none ∧ σ2 = σ2 ∧ Ex H B) ∧ B p = some (.lst [x]) ∧ (0 + 1 = 1 → tz D σ2 B))) = (fun (σ2 : L2.St) (B : Hp) => ((0 + 1 = 0 → H p = none ∧ σ2 = σ' ∧ Ex H B) ∧ B p = some (.lst [x]) ∧ (0 + 1 = 1 → tz D σ2 B))) := funext fun σ2 => funext fun H2 => propext ⟨fun z => ⟨fun z => (by cases z), z.2⟩, fun z => ⟨fun z => (by cases z), z.2⟩⟩
    have := k p B hp e h.2.1
    rw [e1, e2] at this
    exact this) (fun p σ' B h => h.2.2 rfl)
end
def spEt (c : Cc) (Pt Pf Pw : Addr) : Sp := fun vs H Q _ => ∃ (G : Hp) (q : Addr) (k : Sk) (d d' : Sd) (n : Nat), vs = [.ref q] ∧ W3 c Pt Pf Pw G H q k d ∧ Mk k d 1 [] d' n ∧ Po c G H q k d' (PtR n (k.g + 1)) Q
def spWs (K : PySem.W.Frag) (c : Cc) (Pt Pf Pw : Addr) : Sp := fun vs H Q _ => ∃ (G : Hp) (q : Addr) (k : Sk) (d : Sd) (kd : Int) (a t : Addr) (xs : List V) (rs : List R) (n : Nat) (b : Int) (d' : Sd) (ps : List R), vs = [.ref q, .int kd, .ref a, .ref t] ∧ W3 c Pt Pf Pw G H q k d ∧ (kd = 1 ∨ kd = 2) ∧ H a = some (.lst xs) ∧ a ≠ k.cl ∧ Rows K H xs rs ∧ H t = some (.tup [.int (n : Int), .int b]) ∧ Ws k d kd rs n b d' ps ∧
  Po c G H q k d' (LsR K H ps) Q
def spLu (K : PySem.W.Frag) (c : Cc) (Pt Pf Pw : Addr) : Sp := fun vs H Q _ => ∃ (G : Hp) (q : Addr) (k : Sk) (d : Sd) (t kq : Addr) (n l : Nat) (ys : List V) (ks : List Int) (o : Option (List Int)), vs = [.ref q, .ref t, .ref kq] ∧ W3 c Pt Pf Pw G H q k d ∧ H t = some (.tup (.int (n : Int) :: ys)) ∧ H kq = some (.tup (ks.map V.int)) ∧ Lk k d ks l n o ∧
  (o = none → RetV .non H Q) ∧ ∀ v, o = some v → ∀ a H1, Ex H H1 → H1 a = some (.tup (v.map V.int)) → Q (.ref a) H1
section
variable {P : Program} {w : World} {K : PySem.W.Frag} {mg : Str → Option Value} {base : Heap} {c : Cc} {CN CE CO Pt Pf Pw aK : Addr}
theorem spRn_mono {vs : List V} {H : Hp} {Q Q' : VK} {E E' : XK} (m : ∀ v H2, Q v H2 → Q' v H2) (h : spRn K c Pt Pf Pw vs H Q E) : spRn K c Pt Pf Pw vs H Q' E' := by
  obtain ⟨G, q, k, d, t, n, ys, kd, rs, h1, h2, h3, h4, h5⟩ := h
  exact ⟨G, q, k, d, t, n, ys, kd, rs, h1, h2, h3, h4, fun tu l xs H1 a b e g1 g2 g3 => m _ _ (h5 tu l xs H1 a b e g1 g2 g3)⟩
theorem ok_mn {f fT fP fM : Addr} {fd fdT fdP fdM : FuncData} (F : Fun K "make_node" "make_node" sMn f fd) (FTo : Fun K "to_block" "to_block" NN.sTo fT fdT) (GTo : FnOk P w K mg base CX0 2 fT fdT ["kind", "items", "pointer"] (NN.spTo K Pt)) (bTo : Binds K fdT ["kind", "items", "pointer"] []) (gTo : mg "to_block" = some (.ref fT))
    (Gnext_pointer : FnOk P w K mg base (L2.CX P w) 6 fP fdP ["self"] (NT.spNp c CE)) (bnext_pointer : Binds K fdP ["self"] []) (mnext_pointer : Meth K c.T "next_pointer" fP) (Gmake : FnOk P w K mg base (L2.CX P w) 7 fM fdM ["self", "words"] (NT.spMake c CN CE Pw)) (bmake : Binds K fdM ["self", "words"] []) (mmake : Meth K c.T "make" fM) (TT : TxT mg K c.T) : FnOk P w K mg base CX0 8 f fd ["store", "kind", "items"] (spMn K c Pt Pf Pw) := by
  refine F.ok scMn (fun vs H Q E h => ?_) (fun cdv A outer s H vs Q E hr h => ?_)
  · obtain ⟨G, q, k, d, kd, a, xs, rs, d', n, rfl, _⟩ := h
    rfl
  · obtain ⟨G, q, k, d, kd, a, xs, rs, d', n, rfl, W, hS, hR, ⟨wn, hlt, hv, hn, rfl⟩, qq⟩ := h
    refine ⟨_, (pss_one (ps_ret (pe_meth (pv 0) TT.cl mmake Gmake (hr.mono (by omega)) bmake .nil passL (pa_cons (pe_call GTo (hr.mono (by omega)) (by rfl) gTo FTo.kp bTo .nil pass0 (pa_cons (pv 1) (pa_cons (pv 2) (pa_cons (pe_meth0 (pv 0) TT.cl mnext_pointer Gnext_pointer (hr.mono (by omega)) bnext_pointer .nil passL) pa_nil)))) pa_nil)))), ?_⟩
    obtain ⟨dx, ho⟩ := W.st.o
    refine ⟨.ref q, rfl, q, dx, _, rfl, ho, tno (.inr (.inr (.inr (.inr (.inr (.inl rfl)))))), .int kd, rfl, .ref a, rfl, .ref q, rfl, q, dx, _, rfl, ho, tno (.inr (.inr (.inr (.inr (.inr (.inr (.inr (.inr (.inr (.inr (.inl rfl))))))))))), ?_⟩
    refine ⟨G, q, k, d, rfl, W.st, fun _ v hv2 t H1 ht e1 h1 => ?_, fun hlt2 => absurd hlt2 (by omega)⟩
    rw [hv] at hv2
    subst hv2
    refine ⟨kd, a, t, xs, rs, (n : Int), k.g + 1, rfl, wn.hk, ex_l e1 hS, hR.mono e1, wn.wf, wn.m, wn.a, st_of h1, W.t1.mono e1, fun l H2 hl e2 h2 => ?_⟩
    have e12 := e1.trans e2
    have g1 := W.g0
    refine ⟨G, q, k, d, l, _, rfl, W.st.ex e12, h2, ND.kd_ints _, W.t3.mono e12, W.r0, (ST.ne (W.st.ex e1) hl).2.1, fun hno => absurd (okB_blk wn (by omega) (by omega)) hno, fun _ hle => absurd hle (by omega), fun ws i hws h32 hnn hlt2 hv3 hi G' H3 t2 S F T ht2 gt => ?_⟩
    have := ints_inj hws
    subst this
    rw [hv] at hv3
    have hin : n = i := by
      have := V.int.inj hv3
      omega
    subst hin
    exact qq G' H3 (.ref t2) (St.pre e12 S) (Fm.pre e12 F) T ⟨t2, rfl, T.dk.g _ _ gt⟩
theorem ok_wn {f fT fI fM : Addr} {fd fdT fdI fdM : FuncData} (F : Fun K "write_node" "write_node" sWn f fd) (FTo : Fun K "to_block" "to_block" NN.sTo fT fdT) (GTo : FnOk P w K mg base CX0 2 fT fdT ["kind", "items", "pointer"] (NN.spTo K Pt)) (bTo : Binds K fdT ["kind", "items", "pointer"] []) (gTo : mg "to_block" = some (.ref fT))
    (FIi : Fun K "inner_item" "inner_item" sIi fI fdI) (GIi : FnOk P w K mg base CX0 1 fI fdI ["items", "pointer"] (spIi K)) (bIi : Binds K fdI ["items", "pointer"] []) (gIi : mg "inner_item" = some (.ref fI)) (Gwrite : FnOk P w K mg base (L2.CX P w) 6 fM fdM ["self", "pointer", "words"] (NT.spWrite c CN Pw)) (bwrite : Binds K fdM ["self", "pointer", "words"] []) (mwrite : Meth K c.T "write" fM) (TT : TxT mg K c.T) : FnOk P w K mg base CX0 7 f fd ["store", "kind", "items", "pointer"] (spWn K c Pt Pf Pw) := by
  refine F.ok scWn (fun vs H Q E h => ?_) (fun cdv A outer s H vs Q E hr h => ?_)
  · obtain ⟨G, q, k, d, kd, a, t, xs, rs, n, b, d', rfl, _⟩ := h
    rfl
  · obtain ⟨G, q, k, d, kd, a, t, xs, rs, n, b, d', rfl, W, ha, hac, hR, hne, ht, ⟨wn, hb, hn, hw, rfl⟩, qq⟩ := h
    refine ⟨_, (pss_cons (ps_expr (pe_meth (pv 0) TT.cl mwrite Gwrite (hr.mono (by omega)) bwrite .nil passL (pa_cons (pv 3) (pa_cons (pe_call GTo (hr.mono (by omega)) (by rfl) gTo FTo.kp bTo .nil pass0 (pa_cons (pv 1) (pa_cons (pv 2) (pa_cons (pv 3) pa_nil)))) pa_nil))))
      (pss_one (ps_ret (pe_call GIi (hr.mono (by omega)) (by rfl) gIi FIi.kp bIi .nil pass0 (pa_cons (pv 2) (pa_cons (pv 3) pa_nil)))))), ?_⟩
    obtain ⟨dx, ho⟩ := W.st.o
    refine ⟨.ref q, rfl, q, dx, _, rfl, ho, tno (.inr (.inr (.inr (.inr (.inr (.inr (.inl rfl))))))), .ref t, rfl, .int kd, rfl, .ref a, rfl, .ref t, rfl, ?_⟩
    refine ⟨kd, a, t, xs, rs, (n : Int), b, rfl, wn.hk, sq_of ha, hR, wn.wf, wn.m, wn.a, st_of ht, W.t1, fun l H1 hl e1 h1 => ?_⟩
    refine ⟨G, q, k, d, t, (n : Int), [.int b], l, _, rfl, W.st.ex e1, e1 _ _ ht, h1, ND.kd_ints _, W.t3.mono e1, fun hno => absurd ⟨by omega, by omega, by rw [Int.toNat_natCast]; exact hw, okB_blk wn (by omega) hb⟩ hno, fun ws i hws h32 hnn hz hi hw2 G' H2 S F T => ?_⟩
    have := ints_inj hws
    subst this
    have hin : i = n := by omega
    subst hin
    have F1 := Fm.pre e1 F
    have ft := ft_of W.st F1
    refine ⟨.ref a, rfl, .ref t, rfl, a, t, xs, rs, rfl, sq_of (Fm.l W.st F1 ha hac), ft.rows hR, hne, fun u kk H3 hu e3 g1 g2 => ?_⟩
    exact qq G' H3 (.ref u) (St.go (St.pre e1 S) e3) (Fm.go F1 e3) (T.ex e3) ⟨u, kk, rfl, g1, g2⟩
theorem ok_on {f f1 f2 f3 f4 f5 f6 f7 : Addr} {fd fd1 fd2 fd3 fd4 fd5 fd6 fd7 : FuncData} (F : Fun K "own_node" "own_node" sOn f fd) (Gis_new : FnOk P w K mg base (L2.CX P w) 5 f1 fd1 ["self", "pointer"] (NT.spNew c CN)) (bis_new : Binds K fd1 ["self", "pointer"] []) (mis_new : Meth K c.T "is_new" f1)
    (FRn : Fun K "read_node" "read_node" sRn f2 fd2) (GRn : FnOk P w K mg base CX0 6 f2 fd2 ["store", "pointer"] (spRn K c Pt Pf Pw)) (bRn : Binds K fd2 ["store", "pointer"] []) (gRn : mg "read_node" = some (.ref f2)) (FMn : Fun K "make_node" "make_node" sMn f3 fd3) (GMn : FnOk P w K mg base CX0 8 f3 fd3 ["store", "kind", "items"] (spMn K c Pt Pf Pw)) (bMn : Binds K fd3 ["store", "kind", "items"] []) (gMn : mg "make_node" = some (.ref f3))
    (FPs : Fun K "pointers" "pointers" NN.sPtrs f4 fd4) (GPs : FnOk P w K mg base CX0 3 f4 fd4 ["block"] (NN.spPs K Pt Pf)) (bPs : Binds K fd4 ["block"] []) (gPs : mg "pointers" = some (.ref f4)) (FRp : Fun K "release_pointer" "release_pointer" sRp f5 fd5) (GRp : FnOk P w K mg base CX0 1 f5 fd5 ["store", "pointer", "is_node"] spNo) (bRp : Binds K fd5 ["store", "pointer", "is_node"] []) (gRp : mg "release_pointer" = some (.ref f5))
    (Gread : FnOk P w K mg base (L2.CX P w) 5 f6 fd6 ["self", "pointer"] (NT.spRead c CN)) (bread : Binds K fd6 ["self", "pointer"] []) (mread : Meth K c.T "read" f6) (Gshare : FnOk P w K mg base (L2.CX P w) 5 f7 fd7 ["self", "pointer"] (NT.spShare c CN)) (bshare : Binds K fd7 ["self", "pointer"] []) (mshare : Meth K c.T "share" f7) (TT : TxT mg K c.T) : FnOk P w K mg base CX0 9 f fd ["store", "pointer"] (spOn c Pt Pf Pw) := by
  refine F.ok scOn (fun vs H Q E h => ?_) (fun cdv A outer s H vs Q E hr h => ?_)
  · obtain ⟨G, q, k, d, t, n, b, d', n', b', rfl, _⟩ := h
    rfl
  · obtain ⟨G, q, k, d, t, n, b, d', n', b', rfl, W, ht, hO, qq⟩ := h
    refine ⟨_, (pss_cons (ps_if (pt_val (pe_meth (pv 0) TT.cl mis_new Gis_new (hr.mono (by omega)) bis_new .nil passL (pa_cons (pv 1) pa_nil))) (pss_one (ps_ret (pv 1))) pss_nil)
      (pss_cons (ps_asg (pe_call GRn (hr.mono (by omega)) (by rfl) gRn FRn.kp bRn .nil pass0 (pa_cons (pv 0) (pa_cons (pv 1) pa_nil))) (pg_tup (by rfl) (pgs_cons (pg_name (i := 2) scOn.nd rfl (Or.inl rfl)) (pgs_cons (pg_name (i := 3) scOn.nd rfl (Or.inl rfl)) pgs_nil))))
      (pss_cons (ps_set (i := 4) scOn.nd rfl (Or.inl rfl) (pe_call GMn (hr.mono (by omega)) (by rfl) gMn FMn.kp bMn .nil pass0 (pa_cons (pv 0) (pa_cons (pv 2) (pa_cons (pv 3) pa_nil)))))
      (pss_cons (ps_for PassesOwn.never rfl (pi_list (pe_call GPs (hr.mono (by omega)) (by rfl) gPs FPs.kp bPs .nil pass0 (pa_cons (pe_meth (pv 0) TT.cl mread Gread (hr.mono (by omega)) bread .nil passL (pa_cons (pv 4) pa_nil)) pa_nil))) (pg_tup (by rfl) (pgs_cons (pg_name (i := 5) scOn.nd rfl (Or.inl rfl)) (pgs_cons (pg_name (i := 6) scOn.nd rfl (Or.inl rfl)) pgs_nil))) (pss_one (ps_expr (pe_meth (pv 0) TT.cl mshare Gshare (hr.mono (by omega)) bshare .nil passL (pa_cons (pv 5) pa_nil)))))
      (pss_cons (ps_expr (pe_call GRp (hr.mono (by omega)) (by rfl) gRp FRp.kp bRp .nil pass0 (pa_cons (pv 0) (pa_cons (pv 1) (pa_cons pe_bl pa_nil)))))
      (pss_one (ps_ret (pv 4)))))))), ?_⟩
    cases hO with
    | new hn hw =>
      obtain ⟨dx, ho⟩ := W.st.o
      refine q_when (b := true) (et_B (ev_is (ev_meth (z := .bl (newB k d n)) (ev_var rfl) ho (tno (.inr (.inr (.inr (.inl rfl))))) (ea_cons (ev_var rfl) ea_nil) (fun H1 e1 Q' q' E' => ⟨G, q, k, d, t, (n : Int), [.int b], rfl, W.st.ex e1, e1 _ _ ht, fun j hj hjn => by
        have : n = j := by omega
        subst this
        exact q', fun hno => absurd ⟨by omega, by omega⟩ hno⟩)) (by rw [hw]))) (fun _ H1 e1 => ?_) (fun h => by cases h)
      exact s_ret (ev_var rfl) fun H2 e2 => qq G H2 (.ref t) (NT.St.of (e1.trans e2)) (NT.Fm.of (e1.trans e2)) (W.st.ex (e1.trans e2)) ⟨t, rfl, (e1.trans e2) _ _ ht⟩
theorem ok_et {f f3 : Addr} {fd fd3 : FuncData} (F : Fun K "empty_tree" "empty_tree" sEt f fd) (FMn : Fun K "make_node" "make_node" sMn f3 fd3) (GMn : FnOk P w K mg base CX0 8 f3 fd3 ["store", "kind", "items"] (spMn K c Pt Pf Pw)) (bMn : Binds K fd3 ["store", "kind", "items"] []) (gMn : mg "make_node" = some (.ref f3)) (T : NN.Txt mg K aK) : FnOk P w K mg base CX0 9 f fd ["store"] (spEt c Pt Pf Pw) := by
  obtain ⟨_, gLEAF⟩ := T.gLEAF
  refine F.ok scEt (fun vs H Q E h => ?_) (fun cdv A outer s H vs Q E hr h => ?_)
  · obtain ⟨G, q, k, d, d', n, rfl, _⟩ := h
    rfl
  · obtain ⟨G, q, k, d, d', n, rfl, W, hM, qq⟩ := h
    refine ⟨_, (pss_one (ps_ret (pe_call GMn (hr.mono (by omega)) (by rfl) gMn FMn.kp bMn .nil pass0 (pa_cons (pv 0) (pa_cons (pe_glob (v := .int 1) rfl gLEAF ⟨_, rfl⟩) (pa_cons (pe_lst pa_nil) pa_nil)))))), ?_⟩
    refine ⟨.ref q, rfl, ?_⟩
    refine ev_c H (Ex.refl H) _ fun H0 e0 => ?_
    refine el_lst (vs := []) ea_nil (by decide) H0 (Ex.refl _) _ fun p H1 hp e01 h1 => ?_
    have e1 := e0.trans e01
    exact ⟨G, q, k, d, 1, p, [], [], d', n, rfl, W.ex e1, sq_of h1, .nil, hM, fun G' H2 v S F T R => qq G' H2 v (St.pre e1 S) (Fm.pre e1 F) T R⟩
end

end NR

set_option Elab.async false
set_option linter.all false
set_option maxRecDepth 100000
set_option maxHeartbeats 4000000
namespace NR
open PySem PySem.Spec PyProof.Rows L2 Evl LK LT LG LS LQ LX LO LP LV StX SL
open ND (DK Dk St)
open NS (fr cv hv headV)
open NT (Cc Sk Sd ST Fm cont newB fre setM dropD TxT TxH tno)
open NN (R Rows asc most ptr Wf ptrs cntLt cntLe)
theorem W3.nc {c : Cc} {Pt Pf Pw : Addr} {G H : Hp} {q a : Addr} {k : Sk} {d : Sd} (w : W3 c Pt Pf Pw G H q k d) (h : H a = none) : a ≠ k.cl := (ST.ne w.st h).2.1
theorem fb {c : Cc} {G1 H H1 : Hp} {q a : Addr} {k : Sk} {d1 : Sd} (F : Fm H H1 q k) (T : ST c G1 H1 q k d1) (h : H1 a = none) : H a = none := by
  cases hx : H a with
  | none => rfl
  | some o => exact absurd h (NT.al_of F T a (by rw [hx]; exact fun z => by cases z))
theorem ST.up {c : Cc} {G G0 H H0 : Hp} {q a : Addr} {k : Sk} {d d0 : Sd} {o : HO} (T : ST c G H q k d) (S0 : ST c G0 H0 q k d0) (h0 : H0 a = none) (ga : G a = none) : ST c G (L2.upd H a o) q k d := by
  obtain ⟨n1, n2, n3⟩ := ST.ne S0 h0
  obtain ⟨a1, a2, a3, a4⟩ := S0.dk.al
  exact NT.upd_ST T ga n1 n2 n3 ⟨fun z => a1 (by rw [← z]; exact h0), fun z => a2 (by rw [← z]; exact h0), fun z => a3 (by rw [← z]; exact h0), fun z => a4 (by rw [← z]; exact h0)⟩
theorem Fm.up {H H1 : Hp} {q a : Addr} {k : Sk} {o : HO} (F : Fm H H1 q k) (h : H a = none) : Fm H (L2.upd H1 a o) q k := fun x u hx n1 n2 n3 => by
  rw [upd_ne (ne_of_none hx h)]
  exact F x u hx n1 n2 n3
theorem FT.upL {H : Hp} {a : Addr} {xs ys : List V} (h : H a = some (.lst xs)) : FT H (L2.upd H a (.lst ys)) := fun x u hx _ n2 _ => by
  have : x ≠ a := fun z => by
    rw [z, h] at hx
    exact n2 _ (Option.some.inj hx).symm
  rw [upd_ne this]
  exact hx
theorem most_ge {kd : Int} (h : kd = 1 ∨ kd = 2) : 4 ≤ most kd ∧ most kd ≤ 5 := by
  rcases h with rfl | rfl
  · exact ⟨by decide, by decide⟩
  · exact ⟨by decide, by decide⟩
theorem sv_most {kd : Int} {H : Hp} (h : kd = 1 ∨ kd = 2) : SpV NN.spMost [.int kd] H (.int (most kd)) := fun H1 e1 Q q E => ⟨kd, rfl, h, q⟩
section
variable {P : Program} {w : World} {K : PySem.W.Frag} {mg : Str → Option Value} {base : Heap} {c : Cc} {CN CE CO Pt Pf Pw aK : Addr}
theorem ok_ws {f f1 f2 f3 f4 f5 : Addr} {fd fd1 fd2 fd3 fd4 fd5 : FuncData} (F : Fun K "write_split" "write_split" sWs f fd) (FSp : Fun K "split_items" "split_items" NN.sSplit f1 fd1) (GSp : FnOk P w K mg base CX0 1 f1 fd1 ["items", "most"] (NN.spSplit K)) (bSp : Binds K fd1 ["items", "most"] []) (gSp : mg "split_items" = some (.ref f1))
    (FMo : Fun K "most_items" "most_items" NN.sMost f2 fd2) (GMo : FnOk P w K mg base CX0 1 f2 fd2 ["kind"] NN.spMost) (bMo : Binds K fd2 ["kind"] []) (gMo : mg "most_items" = some (.ref f2)) (FWn : Fun K "write_node" "write_node" sWn f3 fd3) (GWn : FnOk P w K mg base CX0 7 f3 fd3 ["store", "kind", "items", "pointer"] (spWn K c Pt Pf Pw)) (bWn : Binds K fd3 ["store", "kind", "items", "pointer"] []) (gWn : mg "write_node" = some (.ref f3))
    (FIi : Fun K "inner_item" "inner_item" sIi f4 fd4) (GIi : FnOk P w K mg base CX0 1 f4 fd4 ["items", "pointer"] (spIi K)) (bIi : Binds K fd4 ["items", "pointer"] []) (gIi : mg "inner_item" = some (.ref f4)) (FMn : Fun K "make_node" "make_node" sMn f5 fd5) (GMn : FnOk P w K mg base CX0 8 f5 fd5 ["store", "kind", "items"] (spMn K c Pt Pf Pw)) (bMn : Binds K fd5 ["store", "kind", "items"] []) (gMn : mg "make_node" = some (.ref f5)) : FnOk P w K mg base CX0 9 f fd ["store", "kind", "items", "pointer"] (spWs K c Pt Pf Pw) := by
  refine F.ok scWs (fun vs H Q E h => ?_) (fun cdv A outer s H vs Q E hr h => ?_)
  · obtain ⟨G, q, k, d, kd, a, t, xs, rs, n, b, d', ps, rfl, _⟩ := h
    rfl
  · obtain ⟨G, q, k, d, kd, a, t, xs, rs, n, b, d', ps, rfl, W, hk, ha, hac, hR, ht, hW, qq⟩ := h
    refine ⟨_, (pss_cons (ps_set (i := 4) scWs.nd rfl (Or.inl rfl) (pe_call GSp (hr.mono (by omega)) (by rfl) gSp FSp.kp bSp .nil pass0 (pa_cons (pv 2) (pa_cons (pe_call GMo (hr.mono (by omega)) (by rfl) gMo FMo.kp bMo .nil pass0 (pa_cons (pv 1) pa_nil)) pa_nil))))
      (pss_cons (ps_set (i := 5) scWs.nd rfl (Or.inl rfl) (pe_lst (pa_cons (pe_call GWn (hr.mono (by omega)) (by rfl) gWn FWn.kp bWn .nil pass0 (pa_cons (pv 0) (pa_cons (pv 1) (pa_cons (pe_ix ix_list (pv 4) pe_int (fun _ _ => rfl)) (pa_cons (pv 3) pa_nil))))) pa_nil)))
      (pss_cons (ps_for PassesOwn.never rfl (pi_list (pe_slice sl_list (pv 4) (po_some pe_int) po_none)) (pg_name (i := 6) scWs.nd rfl (Or.inl rfl)) (pss_one (ps_expr (pe_bm PySem.F.plainAttrs_list PySem.F.slot_list_append PySem.F.type_list_append mt_append (pv 5) (pa_cons (pe_call GIi (hr.mono (by omega)) (by rfl) gIi FIi.kp bIi .nil pass0 (pa_cons (pv 6) (pa_cons (pe_call GMn (hr.mono (by omega)) (by rfl) gMn FMn.kp bMn .nil pass0 (pa_cons (pv 0) (pa_cons (pv 1) (pa_cons (pv 6) pa_nil)))) pa_nil))) pa_nil)))))
      (pss_one (ps_ret (pv 5)))))), ?_⟩
    have hlen := hR.len
    have hm := most_ge hk
    cases hW with
    | one h ne w =>
      refine q_run (vs := [.ref a, .int (most kd)]) (ea_cons (ev_var rfl) (ea_cons (ev_call (vs := [.int kd]) (ea_cons (ev_var rfl) ea_nil) (sv_most hk)) ea_nil)) fun H1 e1 => ⟨a, xs, most kd, rfl, sq_of (e1 _ _ ha), by omega, fun _ p l H2 hp hl e2 h2 hl2 => ?_, fun hgt => absurd hgt (by omega)⟩
      have e12 := e1.trans e2
      refine q_lstC (vs := [.ref q, .int kd, .ref l, .ref t]) (ea_cons (ev_var rfl) (ea_cons (ev_var rfl) (ea_cons (ev_op (ev_var rfl) ev_c (rv_ixL (sq_of h2) (atI_nat (j := 0) rfl))) (ea_cons (ev_var rfl) ea_nil)))) fun H3 e3 => ⟨G, q, k, d, kd, l, t, xs, rs, n, b, d', rfl, W.ex (e12.trans e3), e3 _ _ hl2, (W.ex e1).nc hl, hR.mono (e12.trans e3), ne, (e12.trans e3) _ _ ht, w, fun G' H4 v S F T R => ⟨by show 1 ≤ sizeLine; decide, fun L hL => ?_⟩⟩
      obtain ⟨u, kk, rfl, g1, g2⟩ := R
      have e13 := e12.trans e3
      have e5 := Ex.new (o := .lst [.ref u]) hL
      have hp5 := e5 _ _ (Fm.l (W.ex e13).st F (e3 _ _ h2) ((W.ex e1).nc hp))
      refine q_for0 (el_is (el_sl (ev_var rfl) (eo_some ev_c) eo_none (sq_of hp5)) rfl) fun H6 e6 => ?_
      refine s_ret (ev_var rfl) fun H7 e7 => ?_
      have e47 := (e5.trans e6).trans e7
      have ft := ft_of (W.ex e13).st F
      exact qq G' H7 (.ref L) (St.go (St.pre e13 S) e47) (Fm.go (Fm.pre e13 F) e47) (T.ex e47) ⟨L, [.ref u], rfl, fresh_back e13 (fb F T hL), (e6.trans e7) _ _ upd_same, .cons (e47 _ _ g1) (e47 _ _ g2) (e47 _ _ (ft.t (e13 _ _ ht))) .nil⟩
    | two h hl90 w mk =>
      rename_i d1 n2
      have ehalf : (xs.length + 1) / 2 = half rs := by unfold half; rw [hlen]
      have hh0 : 0 < half rs := by unfold half; omega
      have hh1 : half rs < rs.length := by unfold half; omega
      refine q_run (vs := [.ref a, .int (most kd)]) (ea_cons (ev_var rfl) (ea_cons (ev_call (vs := [.int kd]) (ea_cons (ev_var rfl) ea_nil) (sv_most hk)) ea_nil)) fun H1 e1 => ⟨a, xs, most kd, rfl, sq_of (e1 _ _ ha), by omega, fun hle => absurd hle (by omega), fun _ p l m H2 hp hl hm2 nlm e2 h2 hl2 hm3 => ?_⟩
      rw [ehalf] at hl2 hm3
      have e12 := e1.trans e2
      refine q_lstC (vs := [.ref q, .int kd, .ref l, .ref t]) (ea_cons (ev_var rfl) (ea_cons (ev_var rfl) (ea_cons (ev_op (ev_var rfl) ev_c (rv_ixL (sq_of h2) (atI_nat (j := 0) rfl))) (ea_cons (ev_var rfl) ea_nil)))) fun H3 e3 => ⟨G, q, k, d, kd, l, t, _, _, n, b, d1, rfl, W.ex (e12.trans e3), e3 _ _ hl2, (W.ex e1).nc hl, (hR.mono (e12.trans e3)).take _, fun z => by
        have := congrArg List.length z
        rw [List.length_take, List.length_nil] at this
        omega, (e12.trans e3) _ _ ht, w, fun G' H4 v S F T R => ⟨by show 1 ≤ sizeLine; decide, fun L hL => ?_⟩⟩
      obtain ⟨u, kk, rfl, g1, g2⟩ := R
      have e13 := e12.trans e3
      have e5 := Ex.new (o := .lst [.ref u]) hL
      have hp5 := e5 _ _ (Fm.l (W.ex e13).st F (e3 _ _ h2) ((W.ex e1).nc hp))
      have ncm := (W.ex e1).nc hm2
      have hm5 := e5 _ _ (Fm.l (W.ex e13).st F (e3 _ _ hm3) ncm)
      have ft := ft_of (W.ex e13).st F
      have r1 : d1.r = d.r := by rw [w.2.2.2.2]
      have W4 := (W.ex e13).ch ft T r1
      have hL5 : (L2.upd H4 L (.lst [.ref u])) L = some (.lst [.ref u]) := upd_same
      have W5 := W4.ex e5
      have ncL := W4.nc hL
      have g15 := e5 _ _ g1
      have g25 := e5 _ _ g2
      have ht5 := e5 _ _ (ft.t (e13 _ _ ht))
      have hR5 := (ft.rows (hR.mono e13)).mono e5
      have F5 := Fm.go (Fm.pre e13 F) e5
      have S5 := St.go (St.pre e13 S) e5
      have hL0 := fresh_back e13 (fb F T hL)
      generalize L2.upd H4 L (.lst [.ref u]) = H5 at *
      refine q_for1 (x := .ref m) (el_is (el_sl (ev_var rfl) (eo_some ev_c) eo_none (sq_of hp5)) rfl) fun p3 H6 hp3 e6 h6 => ?_
      have W6 := W5.ex e6
      refine ⟨.ref L, rfl, .inl ⟨rfl, _, sq_of (e6 _ _ hL5)⟩, .ref m, rfl, .ref q, rfl, .int kd, rfl, .ref m, rfl, ?_⟩
      refine ⟨G', q, k, d1, kd, m, _, _, _, n2, rfl, W6, sq_of (e6 _ _ hm5), (hR5.mono e6).drop _, mk, fun G2 H7 v S2 F2 T2 R2 => ?_⟩
      obtain ⟨t2, rfl, ht2⟩ := R2
      have ft2 := ft_of W6.st F2
      have hm7 := Fm.l W6.st F2 (e6 _ _ hm5) ncm
      have hL7 := Fm.l W6.st F2 (e6 _ _ hL5) ncL
      refine ⟨m, t2, _, _, rfl, sq_of hm7, (ft2.rows (hR5.mono e6)).drop _, fun z => by
        have := congrArg List.length z
        rw [List.length_drop, List.length_nil] at this
        omega, fun u2 kk2 H8 hu2 e8 g8 gk8 => ?_⟩
      have hp8 := e8 _ _ (Fm.l W6.st F2 h6 (W5.nc hp3))
      have np3 : p3 ≠ L := fun z => by
        rw [z, hL5] at hp3
        cases hp3
      have hL8 := e8 _ _ hL7
      have T8 := T2.ex e8
      have S8 := St.go ((S5.trans (St.pre e6 S2))) e8
      have F8 := Fm.go (F5.trans (Fm.pre e6 F2)) e8
      have gL : G2 L = none := S2.n L (by rw [e6 _ _ hL5]; exact fun z => by cases z) (fresh_back T.dk.g hL)
      refine ⟨L, [.ref u], .ref u2, rfl, rfl, hL8, by show 1 < sizeLine; decide, ?_⟩
      have hp9 : (L2.upd H8 L (.lst ([.ref u] ++ [.ref u2]))) p3 = some (.lst [.ref m]) := by rw [upd_ne np3]; exact hp8
      refine ⟨hp9, ?_⟩
      have T9 := ST.up (o := .lst ([.ref u] ++ [.ref u2])) T8 T hL gL
      have ft6 := (FT.of (Ex.refl H5)).trans ((FT.of e6).trans (ft2.trans (FT.of e8)))
      have ftu : FT H8 (L2.upd H8 L (.lst ([.ref u] ++ [.ref u2]))) := FT.upL hL8
      have fta := ft6.trans ftu
      refine s_ret (ev_var rfl) fun HA eA => ?_
      exact qq G2 HA (.ref L) (St.go (ND.St.upd S8) eA) (Fm.go (Fm.up F8 hL0) eA) (T9.ex eA) ⟨L, _, rfl, hL0, eA _ _ upd_same, .cons (eA _ _ (fta.t g15)) (eA _ _ (fta.t g25)) (eA _ _ (fta.t ht5)) (.cons (eA _ _ (ftu.t g8)) (eA _ _ (ftu.t gk8)) (eA _ _ (ftu.t (e8 _ _ ht2))) .nil)⟩
end

end NR

set_option Elab.async false
set_option linter.all false
set_option maxRecDepth 100000
set_option maxHeartbeats 4000000
namespace NR
open PySem PySem.Spec PyProof.Rows L2 Evl LK LT LG LS LQ LX LO LP LV StX SL
open ND (DK Dk St)
open NS (fr cv hv headV)
open NT (Cc Sk Sd ST Fm cont newB fre setM dropD TxT TxH tno)
open NN (R Rows asc most ptr Wf ptrs cntLt cntLe)
theorem Lk.inv {k : Sk} {d : Sd} {ks : List Int} {l n : Nat} {o : Option (List Int)} (h : Lk k d ks l n o) : ∃ kd rs, Nd k d n kd rs ∧ ((kd = 1 ∧ o = if hasKey rs (cntLt rs ks) ks then some (rs.getD (cntLt rs ks) ([], [])).2 else none) ∨ (kd = 2 ∧ ∃ (m cn : Nat) (cb : Int) (ck : List Int), l = m + 1 ∧ rs[chI rs ks]? = some (ck, [(cn : Int), cb]) ∧ Lk k d ks m cn o)) := by
  cases h with
  | leaf nd => exact ⟨1, _, nd, .inl ⟨rfl, rfl⟩⟩
  | inner nd hc h => exact ⟨2, _, nd, .inr ⟨rfl, _, _, _, _, rfl, hc, h⟩⟩
theorem Nd.len {k : Sk} {d : Sd} {n : Nat} {kd : Int} {rs : List R} (h : Nd k d n kd rs) : rs.length ≤ 5 := by
  have := (most_ge h.hk).2
  have := h.m
  omega
theorem chI_val {rs : List R} {ks : List Int} : (if 0 > ((cntLe rs ks : Nat) : Int) - 1 then 0 else ((cntLe rs ks : Nat) : Int) - 1) = ((chI rs ks : Nat) : Int) := by
  unfold chI
  split <;> omega
section
variable {K : PySem.W.Frag} {H : Hp} {a q : Addr} {xs : List V} {rs : List R} {ks : List Int}
theorem sv_child (h : H a = some (.lst xs)) (hR : Rows K H xs rs) (hl : rs.length ≤ 100) (hq : H q = some (.tup (ks.map V.int))) : SpV (NN.spChild K) [.ref a, .ref q] H (.int (chI rs ks : Nat)) := fun H1 e1 Q q' E => ⟨a, q, xs, rs, ks, rfl, sq_of (e1 _ _ h), hR.mono e1, hl, st_of (e1 _ _ hq), by rw [chI_val]; exact q'⟩
theorem sv_place (h : H a = some (.lst xs)) (hR : Rows K H xs rs) (hl : rs.length ≤ 100) (hq : H q = some (.tup (ks.map V.int))) : SpV (NN.spPlace K) [.ref a, .ref q] H (.int (cntLt rs ks : Nat)) := fun H1 e1 Q q' E => ⟨a, q, xs, rs, ks, rfl, sq_of (e1 _ _ h), hR.mono e1, hl, st_of (e1 _ _ hq), q'⟩
theorem sv_hk {i : Nat} (h : H a = some (.lst xs)) (hR : Rows K H xs rs) (hq : H q = some (.tup (ks.map V.int))) : SpV (spHk K) [.ref a, .int (i : Int), .ref q] H (.bl (hasKey rs i ks)) := fun H1 e1 Q q' E => ⟨a, q, i, xs, rs, ks, rfl, sq_of (e1 _ _ h), hR.mono e1, st_of (e1 _ _ hq), q'⟩
/-- the pointer in row i -/
theorem ptr_at (hR : Rows K H xs rs) {i : Nat} {ck : List Int} {cn : Nat} {cb : Int} (h : rs[i]? = some (ck, [(cn : Int), cb])) : ∃ t kk vv, xs[i]? = some (.ref t) ∧ H t = some (.tup [.ref kk, .ref vv]) ∧ H vv = some (.tup [.int (cn : Int), .int cb]) := by
  have hi := (List.getElem?_eq_some_iff.mp h).1
  obtain ⟨t, kk, vv, e1, h1, h2, h3⟩ := row0 hR hi
  rw [List.getD_eq_getElem?_getD, h] at h3
  exact ⟨t, kk, vv, e1, h1, h3⟩
theorem cntLt_le (rs : List R) (ks : List Int) : cntLt rs ks ≤ rs.length := by
  unfold NN.cntLt
  have := List.length_filter_le (fun i => HT.lexLt (rs.getD i ([], [])).1 ks) (List.range rs.length)
  rw [List.length_range] at this
  exact this
end
theorem r_callC {σ : L2.St} {H : Hp} {tA : TA} {D : Ends} {sp : Sp} {E : XK} {vs : List V} (ht : EvA tA σ H vs) (k : ∀ H1, Ex H H1 → sp vs H1 D.rt E) : tRet (tCall sp [] E tA) D σ H :=
  ht H (Ex.refl _) _ fun H1 e1 => by
    rw [List.append_nil]
    exact k H1 e1
def spPb (K : PySem.W.Frag) (c : Cc) (Pt Pf Pw : Addr) (l : Nat) : Sp := fun us H Q _ => ∃ (G : Hp) (q : Addr) (k : Sk) (d : Sd) (t kq vq : Addr) (n : Nat) (b : Int) (ks vs : List Int) (d' : Sd) (ps : List R), us = [.ref q, .ref t, .ref kq, .ref vq] ∧ W3 c Pt Pf Pw G H q k d ∧ H t = some (.tup [.int (n : Int), .int b]) ∧ H kq = some (.tup (ks.map V.int)) ∧ H vq = some (.tup (vs.map V.int)) ∧ PutB k ks vs l d n b d' ps ∧
  Po c G H q k d' (LsR K H ps) Q
def spPu (c : Cc) (Pt Pf Pw : Addr) (l : Nat) : Sp := fun us H Q _ => ∃ (G : Hp) (q : Addr) (k : Sk) (d : Sd) (t kq vq : Addr) (n : Nat) (b : Int) (ks vs : List Int) (d' : Sd) (n' : Nat) (b' : Int), us = [.ref q, .ref t, .ref kq, .ref vq] ∧ W3 c Pt Pf Pw G H q k d ∧ H t = some (.tup [.int (n : Int), .int b]) ∧ H kq = some (.tup (ks.map V.int)) ∧ H vq = some (.tup (vs.map V.int)) ∧ Put k ks vs l d n b d' n' b' ∧
  Po c G H q k d' (PtR n' b') Q
theorem Own.r {k : Sk} {d d' : Sd} {n n' : Nat} {b b' : Int} (h : Own k d n b d' n' b') : d'.r = d.r := by cases h; rfl
theorem Wr.r {k : Sk} {d d' : Sd} {n : Nat} {b kd : Int} {rs : List R} (h : Wr k d kd rs n b d') : d'.r = d.r := by rw [h.2.2.2.2]
theorem Mk.r {k : Sk} {d d' : Sd} {n : Nat} {kd : Int} {rs : List R} (h : Mk k d kd rs d' n) : d'.r = d.r := by rw [h.2.2.2.2]
theorem Ws.r {k : Sk} {d d' : Sd} {n : Nat} {b kd : Int} {rs ps : List R} (h : Ws k d kd rs n b d' ps) : d'.r = d.r := by
  cases h with
  | one h ne w => exact w.r
  | two h hl w mk => rw [mk.r, w.r]
theorem PutB.r {k : Sk} {ks vs : List Int} {l : Nat} {d d' : Sd} {n : Nat} {b : Int} {ps : List R} (h : PutB k ks vs l d n b d' ps) : d'.r = d.r := by
  induction h with
  | leaf o nd w => rw [w.r, o.r]
  | inner o nd hc p hl w ih => rw [w.r, ih, o.r]
theorem LsR.back {K : PySem.W.Frag} {c : Cc} {G1 H H8 H9 : Hp} {q : Addr} {k : Sk} {d1 : Sd} {ps : List R} {v : V} (F : Fm H H8 q k) (T : ST c G1 H8 q k d1) (h : LsR K H8 ps H9 v) : LsR K H ps H9 v := by
  obtain ⟨p, xs, e, hp, h1, h2⟩ := h
  exact ⟨p, xs, e, fb F T hp, h1, h2⟩
section
variable {P : Program} {w : World} {K : PySem.W.Frag} {mg : Str → Option Value} {base : Heap} {c : Cc} {CN CE CO Pt Pf Pw aK : Addr}
theorem ok_lu {f f1 f2 f3 f4 : Addr} {fd fd1 fd2 fd3 fd4 : FuncData} (F : Fun K "look_up" "look_up" sLu f fd) (FRn : Fun K "read_node" "read_node" sRn f1 fd1) (GRn : FnOk P w K mg base CX0 6 f1 fd1 ["store", "pointer"] (spRn K c Pt Pf Pw)) (bRn : Binds K fd1 ["store", "pointer"] []) (gRn : mg "read_node" = some (.ref f1))
    (FCh : Fun K "child_of" "child_of" NN.sChild f2 fd2) (GCh : FnOk P w K mg base CX0 1 f2 fd2 ["items", "key"] (NN.spChild K)) (bCh : Binds K fd2 ["items", "key"] []) (gCh : mg "child_of" = some (.ref f2)) (FPl : Fun K "place_of" "place_of" NN.sPlace f3 fd3) (GPl : FnOk P w K mg base CX0 1 f3 fd3 ["items", "key"] (NN.spPlace K)) (bPl : Binds K fd3 ["items", "key"] []) (gPl : mg "place_of" = some (.ref f3))
    (FHk : Fun K "has_key_at" "has_key_at" sHk f4 fd4) (GHk : FnOk P w K mg base CX0 1 f4 fd4 ["items", "at", "key"] (spHk K)) (bHk : Binds K fd4 ["items", "at", "key"] []) (gHk : mg "has_key_at" = some (.ref f4)) (T : NN.Txt mg K aK) : FnOk P w K mg base CX0 7 f fd ["store", "root", "key"] (spLu K c Pt Pf Pw) := by
  obtain ⟨_, gINNER⟩ := T.gINNER
  refine F.ok scLu (fun vs H Q E h => ?_) (fun cdv A outer s H vs Q E hr h => ?_)
  · obtain ⟨G, q, k, d, t, kq, n, l, ys, ks, o, rfl, _⟩ := h
    rfl
  · obtain ⟨G, q, k, d, t, kq, n, l, ys, ks, o, rfl, W, ht, hkq, hL, qN, qV⟩ := h
    refine ⟨_, (pss_cons (ps_asg (pe_call GRn (hr.mono (by omega)) (by rfl) gRn FRn.kp bRn .nil pass0 (pa_cons (pv 0) (pa_cons (pv 1) pa_nil))) (pg_tup (by rfl) (pgs_cons (pg_name (i := 3) scLu.nd rfl (Or.inl rfl)) (pgs_cons (pg_name (i := 4) scLu.nd rfl (Or.inl rfl)) pgs_nil))))
      (pss_cons (ps_while PassesOwn.never (pt_cmpR op_eq (pv 3) (pe_glob (v := .int 2) rfl gINNER ⟨_, rfl⟩) (nomark _)) (pss_one (ps_asg (pe_call GRn (hr.mono (by omega)) (by rfl) gRn FRn.kp bRn .nil pass0 (pa_cons (pv 0) (pa_cons (pe_ix ix_tup (pe_ix ix_list (pv 4) (pe_call GCh (hr.mono (by omega)) (by rfl) gCh FCh.kp bCh .nil pass0 (pa_cons (pv 4) (pa_cons (pv 2) pa_nil))) (fun _ _ => rfl)) pe_int (fun _ _ => rfl)) pa_nil))) (pg_tup (by rfl) (pgs_cons (pg_name (i := 3) scLu.nd rfl (Or.inl rfl)) (pgs_cons (pg_name (i := 4) scLu.nd rfl (Or.inl rfl)) pgs_nil))))))
      (pss_cons (ps_set (i := 5) scLu.nd rfl (Or.inl rfl) (pe_call GPl (hr.mono (by omega)) (by rfl) gPl FPl.kp bPl .nil pass0 (pa_cons (pv 4) (pa_cons (pv 2) pa_nil))))
      (pss_one (ps_ret (pe_ifExp (pt_val (pe_call GHk (hr.mono (by omega)) (by rfl) gHk FHk.kp bHk .nil pass0 (pa_cons (pv 4) (pa_cons (pv 5) (pa_cons (pv 2) pa_nil))))) (pe_ix ix_tup (pe_ix ix_list (pv 4) (pv 5) (fun _ _ => rfl)) pe_int (fun _ _ => rfl)) pe_non)))))), ?_⟩
    obtain ⟨kd, rs, nd, hcase⟩ := hL.inv
    refine q_unpC (vs := [.ref q, .ref t]) (ea_cons (ev_var rfl) (ea_cons (ev_var rfl) ea_nil)) (fun H1 e1 => ⟨G, q, k, d, t, n, ys, kd, rs, rfl, W.ex e1, e1 _ _ ht, nd, fun tu it xs H2 htu hit e2 g1 g2 hR => ⟨tu, _, _, rfl, g1, ?_⟩⟩) (fun _ _ _ m h => spRn_mono m h)
    have e12 := e1.trans e2
    refine q_while (fun m σ' B => ∃ n kd rs it xs, σ' = [some (.ref q), some (.ref t), some (.ref kq), some (.int kd), some (.ref it), none] ∧ Ex H B ∧ B it = some (.lst xs) ∧ Rows K B xs rs ∧ Nd k d n kd rs ∧ ((kd = 1 ∧ o = if hasKey rs (cntLt rs ks) ks then some (rs.getD (cntLt rs ks) ([], [])).2 else none) ∨ (kd = 2 ∧ ∃ (m' cn : Nat) (cb : Int) (ck : List Int), m = m' + 1 ∧ rs[chI rs ks]? = some (ck, [(cn : Int), cb]) ∧ Lk k d ks m' cn o))) l ⟨n, kd, rs, it, xs, rfl, e12, g2, hR, nd, hcase⟩ ?_
    rintro m σ' B ⟨n, kd, rs, it, xs, rfl, eB, hit, hR, nd, hcase⟩
    refine ⟨decide (V.int kd = V.int 2), et_test (ev_op (ev_var rfl) ev_c (rv_eq rfl)), fun hb B1 b1 => ?_, fun hb B1 b1 => ?_⟩
    · have h2 : kd = 2 := V.int.inj (of_decide_eq_true hb)
      obtain ⟨_, m', cn, cb, ck, rfl, hc, hL'⟩ := hcase.resolve_left fun z => by omega
      obtain ⟨t3, kk, vv, x1, x2, x3⟩ := ptr_at hR hc
      obtain ⟨kd', rs', nd', hcase'⟩ := hL'.inv
      refine ⟨fun σ2 B2 => ∃ n kd rs it xs, σ2 = [some (.ref q), some (.ref t), some (.ref kq), some (.int kd), some (.ref it), none] ∧ Ex H B2 ∧ B2 it = some (.lst xs) ∧ Rows K B2 xs rs ∧ Nd k d n kd rs ∧ ((kd = 1 ∧ o = if hasKey rs (cntLt rs ks) ks then some (rs.getD (cntLt rs ks) ([], [])).2 else none) ∨ (kd = 2 ∧ ∃ (m'' cn : Nat) (cb : Int) (ck : List Int), m' = m'' + 1 ∧ rs[chI rs ks]? = some (ck, [(cn : Int), cb]) ∧ Lk k d ks m'' cn o)), fun σ2 B2 h => ⟨m', by omega, h⟩, ?_⟩
      have eB1 := eB.trans b1
      refine s_unpC (vs := [.ref q, .ref vv]) (ea_cons (ev_var rfl) (ea_cons (ev_op (ev_op (ev_var rfl) (ev_call (vs := [.ref it, .ref kq]) (ea_cons (ev_var rfl) (ea_cons (ev_var rfl) ea_nil)) (sv_child (b1 _ _ hit) (hR.mono b1) (by have := nd.len; omega) (eB1 _ _ hkq))) (rv_ixL (sq_of (b1 _ _ hit)) (atI_nat x1))) ev_c (rv_ixT (st_of (b1 _ _ x2)) (atI_nat (j := 1) rfl))) ea_nil)) (fun B2 b2 => ⟨G, q, k, d, vv, cn, [.int cb], kd', rs', rfl, W.ex (eB1.trans b2), (b1.trans b2) _ _ x3, nd', fun tu it' xs' B3 htu hit' b3 g1 g2 hR' => ⟨tu, _, _, rfl, g1, ⟨cn, kd', rs', it', xs', rfl, (eB1.trans b2).trans b3, g2, hR', nd', hcase'⟩⟩⟩) (fun _ _ _ m h => spRn_mono m h)
    · have h1 : kd = 1 := by
        rcases nd.hk with h | h
        · exact h
        · exact absurd (congrArg V.int h) (of_decide_eq_false hb)
      obtain ⟨_, ho⟩ := hcase.resolve_right fun z => by omega
      have eB1 := eB.trans b1
      have hl5 := nd.len
      refine q_asg (ev_call (vs := [.ref it, .ref kq]) (ea_cons (ev_var rfl) (ea_cons (ev_var rfl) ea_nil)) (sv_place (b1 _ _ hit) (hR.mono b1) (by omega) (eB1 _ _ hkq))) fun B2 b2 => ?_
      have b12 := b1.trans b2
      have eB2 := eB1.trans b2
      have tst : ∀ {σ : L2.St}, σ[4]? = some (some (.ref it)) → σ[5]? = some (some (.int (cntLt rs ks : Nat))) → σ[2]? = some (some (.ref kq)) → EvT (tB (tCall (spHk K) [] E0 (tCons (tVar 4) (tCons (tVar 5) (tCons (tVar 2) tNil))))) σ B2 (hasKey rs (cntLt rs ks) ks) := fun a1 a2 a3 => et_B (ev_call (vs := [.ref it, .int (cntLt rs ks : Nat), .ref kq]) (ea_cons (ev_var a1) (ea_cons (ev_var a2) (ea_cons (ev_var a3) ea_nil))) (sv_hk (b12 _ _ hit) (hR.mono b12) (eB2 _ _ hkq)))
      cases hh : hasKey rs (cntLt rs ks) ks with
      | true =>
        rw [hh] at ho
        have hi : cntLt rs ks < rs.length := of_decide_eq_true (Bool.and_eq_true_iff.mp hh).1
        obtain ⟨t0, kk, vv, x1, x2, x3, x4⟩ := row0 hR hi
        refine s_ret (ev_if (tst rfl rfl rfl) (fun _ => ev_op (ev_op (ev_var rfl) (ev_var rfl) (rv_ixL (sq_of (b12 _ _ hit)) (atI_nat x1))) ev_c (rv_ixT (st_of (b12 _ _ x2)) (atI_nat (j := 1) rfl))) (fun h => by rw [hh] at h; cases h)) fun B3 b3 => ?_
        exact qV _ ho vv B3 (eB2.trans b3) ((b12.trans b3) _ _ x4)
      | false =>
        rw [hh] at ho
        refine s_ret (ev_if (tst rfl rfl rfl) (fun h => by rw [hh] at h; cases h) (fun _ => ev_c)) fun B3 b3 => ?_
        exact qN ho B3 (eB2.trans b3)
end

end NR

set_option Elab.async false
set_option linter.all false
set_option maxRecDepth 100000
set_option maxHeartbeats 4000000
namespace NR
open PySem PySem.Spec PyProof.Rows L2 Evl LK LT LG LS LQ LX LO LP LV StX SL
open ND (DK Dk St)
open NS (fr cv hv headV)
open NT (Cc Sk Sd ST Fm cont newB fre setM dropD TxT TxH tno)
open NN (R Rows asc most ptr Wf ptrs cntLt cntLe)
theorem insL_eq {rs : List R} {ks vs : List Int} {en : Nat} (he : en = if hasKey rs (cntLt rs ks) ks then cntLt rs ks + 1 else cntLt rs ks) : insL rs ks vs = rs.take (cntLt rs ks) ++ [(ks, vs)] ++ rs.drop en := by rw [he]; rfl
section
variable {P : Program} {w : World} {K : PySem.W.Frag} {mg : Str → Option Value} {base : Heap} {c : Cc} {CN CE CO Pt Pf Pw aK : Addr}
theorem ok_pb {f f1 f2 f3 f4 f5 f6 : Addr} {fd fd1 fd2 fd3 fd4 fd5 fd6 : FuncData} (FPb : Fun K "put_below" "put_below" sPb f fd) (bPb : Binds K fd ["store", "pointer", "key", "value"] []) (gPb : mg "put_below" = some (.ref f)) (FOn : Fun K "own_node" "own_node" sOn f1 fd1) (GOn : FnOk P w K mg base CX0 9 f1 fd1 ["store", "pointer"] (spOn c Pt Pf Pw)) (bOn : Binds K fd1 ["store", "pointer"] []) (gOn : mg "own_node" = some (.ref f1))
    (FRn : Fun K "read_node" "read_node" sRn f2 fd2) (GRn : FnOk P w K mg base CX0 6 f2 fd2 ["store", "pointer"] (spRn K c Pt Pf Pw)) (bRn : Binds K fd2 ["store", "pointer"] []) (gRn : mg "read_node" = some (.ref f2)) (FPl : Fun K "place_of" "place_of" NN.sPlace f3 fd3) (GPl : FnOk P w K mg base CX0 1 f3 fd3 ["items", "key"] (NN.spPlace K)) (bPl : Binds K fd3 ["items", "key"] []) (gPl : mg "place_of" = some (.ref f3))
    (FHk : Fun K "has_key_at" "has_key_at" sHk f4 fd4) (GHk : FnOk P w K mg base CX0 1 f4 fd4 ["items", "at", "key"] (spHk K)) (bHk : Binds K fd4 ["items", "at", "key"] []) (gHk : mg "has_key_at" = some (.ref f4)) (FCh : Fun K "child_of" "child_of" NN.sChild f5 fd5) (GCh : FnOk P w K mg base CX0 1 f5 fd5 ["items", "key"] (NN.spChild K)) (bCh : Binds K fd5 ["items", "key"] []) (gCh : mg "child_of" = some (.ref f5))
    (FWs : Fun K "write_split" "write_split" sWs f6 fd6) (GWs : FnOk P w K mg base CX0 9 f6 fd6 ["store", "kind", "items", "pointer"] (spWs K c Pt Pf Pw)) (bWs : Binds K fd6 ["store", "kind", "items", "pointer"] []) (gWs : mg "write_split" = some (.ref f6)) (T : NN.Txt mg K aK) : ∀ l : Nat, FnOk P w K mg base CX0 (10 + l) f fd ["store", "pointer", "key", "value"] (spPb K c Pt Pf Pw l)
  | 0 => by
    refine FPb.ok (k := 9) scPb (fun vs H Q E h => ?_) (fun cdv A outer s H vs Q E hr h => ?_)
    · obtain ⟨G, q, k, d, t, kq, vq, n, b, ks, vs, d', ps, rfl, _⟩ := h
      rfl
    · obtain ⟨G, q, k, d, t, kq, vq, n, b, ks, vs, d', ps, rfl, _, _, _, _, hP, _⟩ := h
      cases hP
  | l + 1 => by
    obtain ⟨_, gLEAF⟩ := T.gLEAF
    have GPb := ok_pb FPb bPb gPb FOn GOn bOn gOn FRn GRn bRn gRn FPl GPl bPl gPl FHk GHk bHk gHk FCh GCh bCh gCh FWs GWs bWs gWs T l
    refine FPb.ok (k := 10 + l) scPb (fun vs H Q E h => ?_) (fun cdv A outer s H vs Q E hr h => ?_)
    · obtain ⟨G, q, k, d, t, kq, vq, n, b, ks, vs, d', ps, rfl, _⟩ := h
      rfl
    · obtain ⟨G, q, k, d, t, kq, vq, n, b, ks, vl, d', ps, rfl, W, ht, hkq, hvq, hP, qq⟩ := h
      refine ⟨_, (pss_cons (ps_set (i := 4) scPb.nd rfl (Or.inl rfl) (pe_call GOn (hr.mono (by omega)) (by rfl) gOn FOn.kp bOn .nil pass0 (pa_cons (pv 0) (pa_cons (pv 1) pa_nil))))
      (pss_cons (ps_asg (pe_call GRn (hr.mono (by omega)) (by rfl) gRn FRn.kp bRn .nil pass0 (pa_cons (pv 0) (pa_cons (pv 4) pa_nil))) (pg_tup (by rfl) (pgs_cons (pg_name (i := 5) scPb.nd rfl (Or.inl rfl)) (pgs_cons (pg_name (i := 6) scPb.nd rfl (Or.inl rfl)) pgs_nil))))
      (pss_cons (ps_if (pt_cmpR op_eq (pv 5) (pe_glob (v := .int 1) rfl gLEAF ⟨_, rfl⟩) (nomark _)) (pss_cons (ps_set (i := 7) scPb.nd rfl (Or.inl rfl) (pe_call GPl (hr.mono (by omega)) (by rfl) gPl FPl.kp bPl .nil pass0 (pa_cons (pv 6) (pa_cons (pv 2) pa_nil))))
      (pss_cons (ps_set (i := 8) scPb.nd rfl (Or.inl rfl) (pe_ifExp (pt_val (pe_call GHk (hr.mono (by omega)) (by rfl) gHk FHk.kp bHk .nil pass0 (pa_cons (pv 6) (pa_cons (pv 7) (pa_cons (pv 2) pa_nil))))) (pe_op op_add (pv 7) pe_int) (pv 7)))
      (pss_one (ps_asg (pe_lst (pa_cons (pe_tup (pa_cons (pv 2) (pa_cons (pv 3) pa_nil))) pa_nil)) (SL.pg_subSl (pv 6) (po_some (pv 7)) (po_some (pv 8))))))) (pss_cons (ps_set (i := 7) scPb.nd rfl (Or.inl rfl) (pe_call GCh (hr.mono (by omega)) (by rfl) gCh FCh.kp bCh .nil pass0 (pa_cons (pv 6) (pa_cons (pv 2) pa_nil))))
      (pss_one (ps_asg (pe_call GPb (hr.mono (by omega)) (by rfl) gPb FPb.kp bPb .nil pass0 (pa_cons (pv 0) (pa_cons (pe_ix ix_tup (pe_ix ix_list (pv 6) (pv 7) (fun _ _ => rfl)) pe_int (fun _ _ => rfl)) (pa_cons (pv 2) (pa_cons (pv 3) pa_nil))))) (SL.pg_subSl (pv 6) (po_some (pv 7)) (po_some (pe_op op_add (pv 7) pe_int)))))))
      (pss_one (ps_ret (pe_call GWs (hr.mono (by omega)) (by rfl) gWs FWs.kp bWs .nil pass0 (pa_cons (pv 0) (pa_cons (pv 5) (pa_cons (pv 6) (pa_cons (pv 4) pa_nil)))))))))), ?_⟩
      cases hP with
      | leaf o nd w =>
        rename_i d1 n1 b1 rs
        refine q_run (vs := [.ref q, .ref t]) (ea_cons (ev_var rfl) (ea_cons (ev_var rfl) ea_nil)) fun H1 e1 => ⟨G, q, k, d, t, n, b, d1, n1, b1, rfl, W.ex e1, e1 _ _ ht, o, fun G1 H2 v S2 F2 T2 R2 => ?_⟩
        obtain ⟨t1, rfl, ht1⟩ := R2
        have ft2 := (FT.of e1).trans (ft_of (W.ex e1).st F2)
        have W2 := (W.ex e1).ch (ft_of (W.ex e1).st F2) T2 o.r
        refine q_unpC (vs := [.ref q, .ref t1]) (ea_cons (ev_var rfl) (ea_cons (ev_var rfl) ea_nil)) (fun H3 e3 => ⟨G1, q, k, d1, t1, n1, [.int b1], 1, rs, rfl, W2.ex e3, e3 _ _ ht1, nd, fun tu it xs H4 htu hit e4 g1 g2 hR => ⟨tu, _, _, rfl, g1, ?_⟩⟩) (fun _ _ _ m h => spRn_mono m h)
        have e34 := e3.trans e4
        have ft4 := ft2.trans (FT.of e34)
        have hl5 := nd.len
        refine q_if (b := true) (et_is (et_test (ev_op (ev_var rfl) ev_c (rv_eq rfl))) (decide_eq_true rfl)) (fun _ H5 e5 => ?_) (fun h => by cases h)
        refine q_asg (ev_call (vs := [.ref it, .ref kq]) (ea_cons (ev_var rfl) (ea_cons (ev_var rfl) ea_nil)) (sv_place (e5 _ _ g2) (hR.mono e5) (by omega) (e5 _ _ (ft4.t hkq)))) fun H6 e6 => ?_
        have e56 := e5.trans e6
        obtain ⟨en, hen⟩ : ∃ en, en = if hasKey rs (cntLt rs ks) ks then cntLt rs ks + 1 else cntLt rs ks := ⟨_, rfl⟩
        have tst : ∀ {σ : L2.St}, σ[6]? = some (some (.ref it)) → σ[7]? = some (some (.int (cntLt rs ks : Nat))) → σ[2]? = some (some (.ref kq)) → EvT (tB (tCall (spHk K) [] E0 (tCons (tVar 6) (tCons (tVar 7) (tCons (tVar 2) tNil))))) σ H6 (hasKey rs (cntLt rs ks) ks) := fun a1 a2 a3 => et_B (ev_call (vs := [.ref it, .int (cntLt rs ks : Nat), .ref kq]) (ea_cons (ev_var a1) (ea_cons (ev_var a2) (ea_cons (ev_var a3) ea_nil))) (sv_hk (e56 _ _ g2) (hR.mono e56) (e56 _ _ (ft4.t hkq))))
        refine q_asg (v := .int (en : Int)) (ev_if (tst rfl rfl rfl) (fun h => ev_is (ev_op (ev_var rfl) ev_c rv_I0) (by rw [hen, if_pos h]; push_cast; rfl)) (fun h => ev_is (ev_var rfl) (by rw [hen, if_neg (by rw [h]; decide)]))) fun H7 e7 => ?_
        have e57 := e56.trans e7
        have c1 := cntLt_le rs ks
        have c2 : cntLt rs ks ≤ en ∧ en ≤ rs.length := by
          rw [hen]
          split
          · rename_i h
            have : cntLt rs ks < rs.length := of_decide_eq_true (Bool.and_eq_true_iff.mp h).1
            omega
          · omega
        have hlen := hR.len
        refine s_setSlU (us := [.ref kq, .ref vq]) (eu_tup (ea_cons (ev_var rfl) (ea_cons (ev_var rfl) ea_nil)) (Nat.le_of_ble_eq_true rfl)) fun p L H8 hp hL e8 h8 hL8 => ?_
        have hitL : it ≠ L := fun z => by
          have := e57 _ _ g2
          rw [z, hL] at this
          cases this
        have e59 := e57.trans e8
        refine sub_fin (xs := xs) (ys := [.ref p]) (i := cntLt rs ks) (j := en) (ev_var rfl) (eo_some (ev_var rfl)) (eo_some (ev_var rfl)) (e59 _ _ g2) hL8 hitL c2.1 (by omega) (by rw [List.length_singleton]; omega) fun HA eA => ?_
        dsimp only
        have e5A := e59.trans eA
        have git : G1 it = none := fresh_back (T2.dk.g.trans e3) hit
        have ftu : FT HA (L2.upd HA it (.lst (xs.take (cntLt rs ks) ++ [.ref p] ++ xs.drop en))) := FT.upL (e5A _ _ g2)
        have TB := ST.up (o := .lst (xs.take (cntLt rs ks) ++ [.ref p] ++ xs.drop en)) (T2.ex (e34.trans e5A)) (W2.ex e3).st hit git
        have FB := Fm.up (o := .lst (xs.take (cntLt rs ks) ++ [.ref p] ++ xs.drop en)) (Fm.go (Fm.pre e1 F2) (e34.trans e5A)) (fresh_back e1 (fb F2 T2 (fresh_back e3 hit)))
        have SB := ND.St.upd (a := it) (o := .lst (xs.take (cntLt rs ks) ++ [.ref p] ++ xs.drop en)) (St.go (St.pre e1 S2) (e34.trans e5A))
        have ftB := ((FT.of (e34.trans e5A))).trans ftu
        have WB := W2.ch ftB TB rfl
        have hRB : Rows K (L2.upd HA it (.lst (xs.take (cntLt rs ks) ++ [.ref p] ++ xs.drop en))) (xs.take (cntLt rs ks) ++ [.ref p] ++ xs.drop en) (insL rs ks vl) := by
          rw [insL_eq hen]
          have r0 := ftu.rows (hR.mono e5A)
          have ftk := ft4.trans ((FT.of e5A).trans ftu)
          exact ((r0.take _).app (.cons (ftu.t (eA _ _ h8)) (ftk.t hkq) (ftk.t hvq) .nil)).app (r0.drop _)
        have hitB : (L2.upd HA it (.lst (xs.take (cntLt rs ks) ++ [.ref p] ++ xs.drop en))) it = some (.lst (xs.take (cntLt rs ks) ++ [.ref p] ++ xs.drop en)) := upd_same
        have ht1B := ftB.t ht1
        generalize L2.upd HA it (.lst (xs.take (cntLt rs ks) ++ [.ref p] ++ xs.drop en)) = HB at *
        refine r_callC (vs := [.ref q, .int 1, .ref it, .ref t1]) (ea_cons (ev_var rfl) (ea_cons (ev_var rfl) (ea_cons (ev_var rfl) (ea_cons (ev_var rfl) ea_nil)))) fun HC eC => ⟨G1, q, k, d1, 1, it, t1, _, insL rs ks vl, n1, b1, d', ps, rfl, WB.ex eC, .inl rfl, eC _ _ hitB, (W2.ex e3).nc hit, hRB.mono eC, eC _ _ ht1B, w, fun G' HD v SD FD TD RD => ?_⟩
        exact qq G' HD v (SB.trans (St.pre eC SD)) (FB.trans (Fm.pre eC FD)) TD (RD.back (Fm.go FB eC) (TB.ex eC))
      | inner o nd hc p hl10 w =>
        rename_i d1 d2 n1 cn b1 cb rs cs ck
        refine q_run (vs := [.ref q, .ref t]) (ea_cons (ev_var rfl) (ea_cons (ev_var rfl) ea_nil)) fun H1 e1 => ⟨G, q, k, d, t, n, b, d1, n1, b1, rfl, W.ex e1, e1 _ _ ht, o, fun G1 H2 v S2 F2 T2 R2 => ?_⟩
        obtain ⟨t1, rfl, ht1⟩ := R2
        have ft2 := (FT.of e1).trans (ft_of (W.ex e1).st F2)
        have W2 := (W.ex e1).ch (ft_of (W.ex e1).st F2) T2 o.r
        refine q_unpC (vs := [.ref q, .ref t1]) (ea_cons (ev_var rfl) (ea_cons (ev_var rfl) ea_nil)) (fun H3 e3 => ⟨G1, q, k, d1, t1, n1, [.int b1], 2, rs, rfl, W2.ex e3, e3 _ _ ht1, nd, fun tu it xs H4 htu hit e4 g1 g2 hR => ⟨tu, _, _, rfl, g1, ?_⟩⟩) (fun _ _ _ m h => spRn_mono m h)
        have e34 := e3.trans e4
        have ft4 := ft2.trans (FT.of e34)
        have hl5 := nd.len
        have hlen := hR.len
        have hci := (List.getElem?_eq_some_iff.mp hc).1
        obtain ⟨t3, kk, vv, x1, x2, x3⟩ := ptr_at hR hc
        refine q_if (b := false) (et_is (et_test (ev_op (ev_var rfl) ev_c (rv_eq rfl))) (by decide +kernel)) (fun h => by cases h) (fun _ H5 e5 => ?_)
        refine q_asg (ev_call (vs := [.ref it, .ref kq]) (ea_cons (ev_var rfl) (ea_cons (ev_var rfl) ea_nil)) (sv_child (e5 _ _ g2) (hR.mono e5) (by omega) (e5 _ _ (ft4.t hkq)))) fun H6 e6 => ?_
        have e56 := e5.trans e6
        refine s_setSlC (ea_cons (vs := [.ref vv, .ref kq, .ref vq]) (x := .ref q) (ev_var rfl) (ea_cons (ev_op (ev_op (ev_var rfl) (ev_var rfl) (rv_ixL (sq_of (e56 _ _ g2)) (atI_nat x1))) ev_c (rv_ixT (st_of (e56 _ _ x2)) (atI_nat (j := 1) rfl))) (ea_cons (ev_var rfl) (ea_cons (ev_var rfl) ea_nil))) H6 (Ex.refl _) _ fun H7 e7 => ?_)
        have e57 := e56.trans e7
        have W7 := W2.ex (e34.trans e57)
        have ft7 := ft4.trans (FT.of e57)
        refine ⟨G1, q, k, d1, vv, kq, vq, cn, cb, ks, vl, d2, cs, rfl, W7, e57 _ _ x3, ft7.t hkq, ft7.t hvq, p, fun G2 H8 v S8 F8 T8 R8 => ?_⟩
        obtain ⟨pl, ys, rfl, hpl, h8, hRy⟩ := R8
        have ft8 := ft_of W7.st F8
        have hncit := (W2.ex e3).nc hit
        have hit7 := e57 _ _ g2
        have hit8 := Fm.l W7.st F8 hit7 hncit
        have hitp : it ≠ pl := fun z => by
          rw [z, hpl] at hit7
          cases hit7
        have hly := hRy.len
        refine sub_fin (xs := xs) (ys := ys) (i := chI rs ks) (j := chI rs ks + 1) (ev_var rfl) (eo_some (ev_var rfl)) (eo_some (ev_is (ev_op (ev_var rfl) ev_c rv_I0) (by push_cast; rfl))) hit8 h8 hitp (by omega) (by omega) (by omega) fun HA eA => ?_
        dsimp only
        have git1 : G1 it = none := fresh_back (T2.dk.g.trans e3) hit
        have git : G2 it = none := S8.n it (by rw [hit7]; exact fun z => by cases z) git1
        have ftu : FT HA (L2.upd HA it (.lst (xs.take (chI rs ks) ++ ys ++ xs.drop (chI rs ks + 1)))) := FT.upL (eA _ _ hit8)
        have TB := ST.up (o := .lst (xs.take (chI rs ks) ++ ys ++ xs.drop (chI rs ks + 1))) (T8.ex eA) (W2.ex e3).st hit git
        have F18 := (Fm.go (Fm.pre e1 F2) (e34.trans e57)).trans F8
        have S18 := (St.go (St.pre e1 S2) (e34.trans e57)).trans S8
        have FB := Fm.up (o := .lst (xs.take (chI rs ks) ++ ys ++ xs.drop (chI rs ks + 1))) (Fm.go F18 eA) (fresh_back e1 (fb F2 T2 (fresh_back e3 hit)))
        have SB := ND.St.upd (a := it) (o := .lst (xs.take (chI rs ks) ++ ys ++ xs.drop (chI rs ks + 1))) (St.go S18 eA)
        have ft2B := (((FT.of (e34.trans e57)).trans ft8).trans (FT.of eA)).trans ftu
        have WB := W2.ch ft2B TB p.r
        have hRB : Rows K (L2.upd HA it (.lst (xs.take (chI rs ks) ++ ys ++ xs.drop (chI rs ks + 1)))) (xs.take (chI rs ks) ++ ys ++ xs.drop (chI rs ks + 1)) (rs.take (chI rs ks) ++ cs ++ rs.drop (chI rs ks + 1)) := by
          have r0 := ftu.rows ((ft8.rows (hR.mono e57)).mono eA)
          have ry := ftu.rows (hRy.mono eA)
          exact ((r0.take _).app ry).app (r0.drop _)
        have hitB : (L2.upd HA it (.lst (xs.take (chI rs ks) ++ ys ++ xs.drop (chI rs ks + 1)))) it = some (.lst (xs.take (chI rs ks) ++ ys ++ xs.drop (chI rs ks + 1))) := upd_same
        have ht1B := ft2B.t ht1
        generalize L2.upd HA it (.lst (xs.take (chI rs ks) ++ ys ++ xs.drop (chI rs ks + 1))) = HB at *
        refine r_callC (vs := [.ref q, .int 2, .ref it, .ref t1]) (ea_cons (ev_var rfl) (ea_cons (ev_var rfl) (ea_cons (ev_var rfl) (ea_cons (ev_var rfl) ea_nil)))) fun HC eC => ⟨G2, q, k, d2, 2, it, t1, _, _, n1, b1, d', ps, rfl, WB.ex eC, .inr rfl, eC _ _ hitB, hncit, hRB.mono eC, eC _ _ ht1B, w, fun G' HD v SD FD TD RD => ?_⟩
        exact qq G' HD v (SB.trans (St.pre eC SD)) (FB.trans (Fm.pre eC FD)) TD (RD.back (Fm.go FB eC) (TB.ex eC))
theorem ok_pu {l : Nat} {f f1 f2 : Addr} {fd fd1 fd2 : FuncData} (F : Fun K "put" "put" sPu f fd) (FPb : Fun K "put_below" "put_below" sPb f1 fd1) (GPb : FnOk P w K mg base CX0 (10 + l) f1 fd1 ["store", "pointer", "key", "value"] (spPb K c Pt Pf Pw l)) (bPb : Binds K fd1 ["store", "pointer", "key", "value"] []) (gPb : mg "put_below" = some (.ref f1))
    (FMn : Fun K "make_node" "make_node" sMn f2 fd2) (GMn : FnOk P w K mg base CX0 8 f2 fd2 ["store", "kind", "items"] (spMn K c Pt Pf Pw)) (bMn : Binds K fd2 ["store", "kind", "items"] []) (gMn : mg "make_node" = some (.ref f2)) (T : NN.Txt mg K aK) : FnOk P w K mg base CX0 (11 + l) f fd ["store", "root", "key", "value"] (spPu c Pt Pf Pw l) := by
  obtain ⟨_, gINNER⟩ := T.gINNER
  rw [show 11 + l = (10 + l) + 1 by omega]
  refine F.ok (k := 10 + l) scPu (fun vs H Q E h => ?_) (fun cdv A outer s H vs Q E hr h => ?_)
  · obtain ⟨G, q, k, d, t, kq, vq, n, b, ks, vs, d', n', b', rfl, _⟩ := h
    rfl
  · obtain ⟨G, q, k, d, t, kq, vq, n, b, ks, vl, d', n', b', rfl, W, ht, hkq, hvq, hP, qq⟩ := h
    refine ⟨_, (pss_cons (ps_set (i := 4) scPu.nd rfl (Or.inl rfl) (pe_call GPb (hr.mono (by omega)) (by rfl) gPb FPb.kp bPb .nil pass0 (pa_cons (pv 0) (pa_cons (pv 1) (pa_cons (pv 2) (pa_cons (pv 3) pa_nil))))))
      (pss_cons (ps_if (pt_cmpR op_eq (pe_callB call_len_seq (by rfl) T.len (by decide +kernel) (pa_cons (pv 4) pa_nil)) pe_int (nomark _)) (pss_one (ps_ret (pe_ix ix_tup (pe_ix ix_list (pv 4) pe_int (fun _ _ => rfl)) pe_int (fun _ _ => rfl)))) pss_nil)
      (pss_one (ps_ret (pe_call GMn (hr.mono (by omega)) (by rfl) gMn FMn.kp bMn .nil pass0 (pa_cons (pv 0) (pa_cons (pe_glob (v := .int 2) rfl gINNER ⟨_, rfl⟩) (pa_cons (pv 4) pa_nil)))))))), ?_⟩
    cases hP with
    | one p =>
      refine q_run (vs := [.ref q, .ref t, .ref kq, .ref vq]) (ea_cons (ev_var rfl) (ea_cons (ev_var rfl) (ea_cons (ev_var rfl) (ea_cons (ev_var rfl) ea_nil)))) fun H1 e1 => ⟨G, q, k, d, t, kq, vq, n, b, ks, vl, d', _, rfl, W.ex e1, e1 _ _ ht, e1 _ _ hkq, e1 _ _ hvq, p, fun G1 H2 v S F1 T1 R1 => ?_⟩
      obtain ⟨pl, xs, rfl, hpl, h2, hR⟩ := R1
      have hlen : xs.length = 1 := hR.len
      refine q_when (b := true) (et_is (et_test (ev_op (ev_is (w := .int 1) (ev_lenL (ev_var rfl) h2) (by rw [hlen]; rfl)) ev_c (rv_eq rfl))) (decide_eq_true rfl)) (fun _ H3 e3 => ?_) (fun h => by cases h)
      obtain ⟨t0, kk, vv, x1, x2, x3⟩ := ptr_at (i := 0) hR rfl
      refine s_ret (ev_op (ev_op (ev_var rfl) ev_c (rv_ixL (sq_of (e3 _ _ h2)) (atI_nat (j := 0) x1))) ev_c (rv_ixT (st_of (e3 _ _ x2)) (atI_nat (j := 1) rfl))) fun H4 e4 => ?_
      have e34 := e3.trans e4
      exact qq G1 H4 (.ref vv) (St.go (St.pre e1 S) e34) (Fm.go (Fm.pre e1 F1) e34) (T1.ex e34) ⟨vv, rfl, e34 _ _ x3⟩
    | two p h1 hl m =>
      rename_i d1 ps
      refine q_run (vs := [.ref q, .ref t, .ref kq, .ref vq]) (ea_cons (ev_var rfl) (ea_cons (ev_var rfl) (ea_cons (ev_var rfl) (ea_cons (ev_var rfl) ea_nil)))) fun H1 e1 => ⟨G, q, k, d, t, kq, vq, n, b, ks, vl, d1, ps, rfl, W.ex e1, e1 _ _ ht, e1 _ _ hkq, e1 _ _ hvq, p, fun G1 H2 v S F1 T1 R1 => ?_⟩
      obtain ⟨pl, xs, rfl, hpl, h2, hR⟩ := R1
      have hlen := hR.len
      refine q_when (b := false) (et_is (et_test (ev_op (ev_lenL (ev_var rfl) h2) ev_c (rv_eq rfl))) (decide_eq_false fun z => h1 (by have := V.int.inj z; omega))) (fun h => by cases h) (fun _ H3 e3 => ?_)
      have W1 := (W.ex e1).ch (ft_of (W.ex e1).st F1) T1 p.r
      refine r_callC (vs := [.ref q, .int 2, .ref pl]) (ea_cons (ev_var rfl) (ea_cons ev_c (ea_cons (ev_var rfl) ea_nil))) fun H4 e4 => ⟨G1, q, k, d1, 2, pl, xs, ps, d', n', rfl, W1.ex (e3.trans e4), sq_of ((e3.trans e4) _ _ h2), hR.mono (e3.trans e4), m, fun G2 H5 v S5 F5 T5 R5 => ?_⟩
      have e34 := e3.trans e4
      exact qq G2 H5 v ((St.go (St.pre e1 S) e34).trans S5) ((Fm.go (Fm.pre e1 F1) e34).trans F5) T5 R5
end

end NR

set_option Elab.async false
set_option linter.all false
set_option maxRecDepth 100000
set_option maxHeartbeats 4000000
namespace NR
open PySem PySem.Spec PyProof.Rows L2 Evl LK LT LG LS LQ LX LO LP LV StX SL
open ND (DK Dk St)
open NS (fr cv hv headV)
open NT (Cc Sk Sd ST Fm cont newB fre setM dropD TxT TxH tno)
open NN (R Rows asc most ptr Wf ptrs cntLt cntLe)
section
variable {K : PySem.W.Frag} {σ : L2.St} {H : Hp} {D : Ends} {sp : Sp} {E : XK} {tz : TS} {ta tb te t1 t3 : TE} {tA tr : TA} {xs ys zs vs : List V}
/-- x = f(a new list, ..) -/
theorem q_runL {i : Nat} (h : EvL te σ H xs) (hr : EvA tr σ H vs) (k : ∀ p H1, H p = none → Ex H H1 → H1 p = some (.lst xs) → sp (.ref p :: vs) H1 (fun v H2 => tz D (σ.set i (some v)) H2) E) : tSeq (tAsg (tCall sp [] E (tCons te tr)) (gName i)) tz D σ H :=
  h H (Ex.refl _) _ fun p H1 hp e1 g1 => hr H1 e1 _ fun H2 e2 => by
    show sp ((.ref p :: vs) ++ []) H2 _ E
    rw [List.append_nil]
    exact k p H2 hp (e1.trans e2) (e2 _ _ g1)
theorem el_catVV {a b : Addr} (ha : Ev ta σ H (.ref a)) (h1 : H a = some (.lst xs)) (hb : Ev tb σ H (.ref b)) (h2 : H b = some (.lst ys)) (hz : xs.length + ys.length ≤ 100000) : EvL (tOp rCat ta tb) σ H (xs ++ ys) := fun H1 e Q q =>
  ha H1 e _ fun H2 e2 => hb H2 (e.trans e2) _ fun H3 e3 => ⟨a, b, xs, ys, rfl, rfl, (e.trans (e2.trans e3)) _ _ h1, (e.trans (e2.trans e3)) _ _ h2, sz_of hz, fun L hL => q L _ (fresh_back (e2.trans e3) hL) ((e2.trans e3).trans (Ex.new hL)) upd_same⟩
theorem el_catM {b : Addr} (ha : EvL ta σ H xs) (hb : Ev tb σ H (.ref b)) (h : H b = some (.lst ys)) (hz : xs.length + ys.length ≤ 100000) : EvL (tOp rCat ta tb) σ H (xs ++ ys) := fun H1 e Q q =>
  ha H1 e _ fun p H2 hp e2 g2 => hb H2 (e.trans e2) _ fun H3 e3 => ⟨p, b, xs, ys, rfl, rfl, e3 _ _ g2, (e.trans (e2.trans e3)) _ _ h, sz_of hz, fun L hL => q L _ (fresh_back (e2.trans e3) hL) ((e2.trans e3).trans (Ex.new hL)) upd_same⟩
theorem el_cat2 (ha : EvL ta σ H xs) (hb : EvL tb σ H ys) (hz : xs.length + ys.length ≤ 100000) : EvL (tOp rCat ta tb) σ H (xs ++ ys) := fun H1 e Q q =>
  ha H1 e _ fun p H2 hp e2 g2 => hb H2 (e.trans e2) _ fun p2 H3 hp2 e3 g3 => ⟨p, p2, xs, ys, rfl, rfl, e3 _ _ g2, g3, sz_of hz, fun L hL => q L _ (fresh_back (e2.trans e3) hL) ((e2.trans e3).trans (Ex.new hL)) upd_same⟩
theorem s_appC {l : Addr} (hl : H l = some (.lst xs)) (ha : Ev ta σ H (.ref l)) (h : EvA tA σ H vs) (k : ∀ H1, Ex H H1 → sp vs H1 (fun v H2 => rAppend (.ref l) [v] H2 fun _ H3 => D.nx σ H3) E) : tDrop (tBM K "list" rAppend ta (tCons (tCall sp [] E tA) tNil)) D σ H := ha H (Ex.refl H) _ fun H1 e1 =>
  ⟨Or.inl ⟨rfl, xs, sq_of (e1 l _ hl)⟩, h H1 e1 _ fun H2 e2 => by
    rw [List.append_nil]
    exact k H2 (e1.trans e2)⟩
/-- x = f(a, b, c, g(..)) -/
theorem s_nest4 {i : Nat} {sp2 : Sp} {E2 : XK} {ta1 ta2 ta3 : TE} {v1 v2 v3 : V} (h1 : Ev ta1 σ H v1) (h2 : Ev ta2 σ H v2) (h3 : Ev ta3 σ H v3) (h : ∀ H1, Ex H H1 → EvA tA σ H1 vs) (k : ∀ H1, Ex H H1 → sp2 vs H1 (fun v H2 => sp [v1, v2, v3, v] H2 (fun x H3 => D.nx (σ.set i (some x)) H3) E) E2) : tAsg (tCall sp [] E (tCons ta1 (tCons ta2 (tCons ta3 (tCons (tCall sp2 [] E2 tA) tNil))))) (gName i) D σ H :=
  h1 H (Ex.refl _) _ fun H1 e1 => h2 H1 e1 _ fun H2 e2 => h3 H2 (e1.trans e2) _ fun H3 e3 => h H3 ((e1.trans e2).trans e3) H3 (Ex.refl _) _ fun H4 e4 => by
    rw [List.append_nil]
    exact k H4 (((e1.trans e2).trans e3).trans e4)
/-- x = a + [f(..)] + b, what f gives told by R -/
theorem q_catI {i : Nat} {R : Hp → V → Prop} (h1 : EvL t1 σ H xs) (hA : EvA tA σ H vs) (hs : ∀ H1, Ex H H1 → ∀ Q : VK, (∀ v H2, Ex H1 H2 → R H2 v → Q v H2) → sp vs H1 Q E) (h3 : EvL t3 σ H zs) (hz : xs.length + 1 + zs.length ≤ 10000) (mono : ∀ H1 H2 v, Ex H1 H2 → R H1 v → R H2 v)
    (k : ∀ v L H1, H L = none → Ex H H1 → R H1 v → H1 L = some (.lst (xs ++ [v] ++ zs)) → tz D (σ.set i (some (.ref L))) H1) : tSeq (tAsg (tOp rCat (tOp rCat t1 (tLst (tCons (tCall sp [] E tA) tNil))) t3) (gName i)) tz D σ H :=
  h1 H (Ex.refl _) _ fun p1 H1 hp1 e1 g1 => hA H1 e1 _ fun H2 e2 => by
    rw [List.append_nil]
    refine hs H2 (e1.trans e2) _ fun v H3 e3 hR => ?_
    refine ⟨by show 1 ≤ sizeLine; decide, fun p2 hp2 => ?_⟩
    have e13 := (e1.trans e2).trans e3
    have e4 := Ex.new (o := .lst [v]) hp2
    refine ⟨p1, p2, xs, [v], rfl, rfl, (e2.trans (e3.trans e4)) _ _ g1, upd_same, sz_of (by rw [List.length_singleton]; omega), fun p3 hp3 => ?_⟩
    have e5 := Ex.new (o := .lst (xs ++ [v])) hp3
    refine h3 _ ((e13.trans e4).trans e5) _ fun p4 H6 hp4 e6 g6 => ?_
    refine ⟨p3, p4, xs ++ [v], zs, rfl, rfl, e6 _ _ upd_same, g6, sz_of (by rw [List.length_append, List.length_singleton]; omega), fun L hL => ?_⟩
    have e7 := Ex.new (o := .lst (xs ++ [v] ++ zs)) hL
    have e47 := ((e4.trans e5).trans e6).trans e7
    exact k v L _ (fresh_back (((e13.trans e4).trans e5).trans e6) hL) (e13.trans e47) (mono _ _ _ e47 hR) upd_same
end
def InR (K : PySem.W.Frag) (rs : List R) (t : Addr) (H : Hp) (v : V) : Prop := ∃ u kk, v = .ref u ∧ H u = some (.tup [.ref kk, .ref t]) ∧ H kk = some (.tup ((k0 rs).map V.int))
theorem InR.ex {K : PySem.W.Frag} {rs : List R} {t : Addr} {H H1 : Hp} {v : V} (e : Ex H H1) (h : InR K rs t H v) : InR K rs t H1 v := let ⟨u, kk, a, b, c⟩ := h; ⟨u, kk, a, e _ _ b, e _ _ c⟩
def spJc (K : PySem.W.Frag) (c : Cc) (Pt Pf Pw : Addr) : Sp := fun us H Q _ => ∃ (G : Hp) (q : Addr) (k : Sk) (d : Sd) (a : Addr) (i : Nat) (xs : List V) (rs : List R) (d' : Sd) (rs' : List R), us = [.ref q, .ref a, .int (i : Int)] ∧ W3 c Pt Pf Pw G H q k d ∧ H a = some (.lst xs) ∧ a ≠ k.cl ∧ Rows K H xs rs ∧ rs.length ≤ 90 ∧ Join k d rs i d' rs' ∧ Po c G H q k d' (LsR K H rs') Q
def spWc (K : PySem.W.Frag) (c : Cc) (Pt Pf Pw : Addr) : Sp := fun us H Q _ => ∃ (G : Hp) (q : Addr) (k : Sk) (d : Sd) (a t : Addr) (i cn : Nat) (cb : Int) (xs : List V) (rs : List R) (d' : Sd) (rs' : List R), us = [.ref q, .ref a, .int (i : Int), .ref t] ∧ W3 c Pt Pf Pw G H q k d ∧ H a = some (.lst xs) ∧ a ≠ k.cl ∧ Rows K H xs rs ∧ rs.length ≤ 5 ∧ H t = some (.tup [.int (cn : Int), .int cb]) ∧ WithC k d rs i cn cb d' rs' ∧ Po c G H q k d' (LsR K H rs') Q
def spTb (c : Cc) (Pt Pf Pw : Addr) (l : Nat) : Sp := fun us H Q _ => ∃ (G : Hp) (q : Addr) (k : Sk) (d : Sd) (t kq : Addr) (n : Nat) (b : Int) (ks : List Int) (d' : Sd) (n' : Nat) (b' : Int), us = [.ref q, .ref t, .ref kq] ∧ W3 c Pt Pf Pw G H q k d ∧ H t = some (.tup [.int (n : Int), .int b]) ∧ H kq = some (.tup (ks.map V.int)) ∧ TakeB k ks l d n b d' n' b' ∧ Po c G H q k d' (PtR n' b') Q
def spWo (c : Cc) (Pt Pf Pw : Addr) : Sp := fun us H Q _ => ∃ (G : Hp) (q : Addr) (k : Sk) (d : Sd) (t : Addr) (n : Nat) (b : Int) (l : Nat) (d' : Sd) (n' : Nat) (b' : Int), us = [.ref q, .ref t] ∧ W3 c Pt Pf Pw G H q k d ∧ H t = some (.tup [.int (n : Int), .int b]) ∧ Wor k l d n b d' n' b' ∧ Po c G H q k d' (PtR n' b') Q
theorem LsR.ex {K : PySem.W.Frag} {H0 H H1 : Hp} {rs : List R} {v : V} (e : Ex H H1) (h : LsR K H0 rs H v) : LsR K H0 rs H1 v := let ⟨p, xs, a, b, c, d⟩ := h; ⟨p, xs, a, b, e _ _ c, d.mono e⟩
theorem dropD_r (d : Sd) (i : Nat) : (dropD d i).r = d.r := rfl
theorem Join.inv {k : Sk} {d d' : Sd} {rs rs' : List R} {i : Nat} (h : Join k d rs i d' rs') : ∃ (d1 d2 d3 : Sd) (r1 r2 : List R) (n1 n2 m1 m2 : Nat) (b1 b2 c1 c2 kd kd2 : Int) (k1 k2 : List Int), rs[i]? = some (k1, [(n1 : Int), b1]) ∧ rs[i + 1]? = some (k2, [(n2 : Int), b2]) ∧ Own k d n1 b1 d1 m1 c1 ∧ Own k d1 n2 b2 d2 m2 c2 ∧ Nd k d2 m1 kd r1 ∧ Nd k d2 m2 kd2 r2 ∧
    ((((r1 ++ r2).length : Int) ≤ most kd ∧ r1 ++ r2 ≠ [] ∧ Wr k d2 kd (r1 ++ r2) m1 c1 d3 ∧ 5 ≤ m2 ∧ m2 < k.n ∧ cv d3.cs m2 ≠ 0 ∧ d' = dropD d3 m2 ∧ rs' = rs.take i ++ [(k0 (r1 ++ r2), [(m1 : Int), c1])] ++ rs.drop (i + 2)) ∨
     (most kd < ((r1 ++ r2).length : Int) ∧ Wr k d2 kd ((r1 ++ r2).take (half (r1 ++ r2))) m1 c1 d3 ∧ Wr k d3 kd ((r1 ++ r2).drop (half (r1 ++ r2))) m2 c2 d' ∧ rs' = rs.take i ++ [(k0 ((r1 ++ r2).take (half (r1 ++ r2))), [(m1 : Int), c1]), (k0 ((r1 ++ r2).drop (half (r1 ++ r2))), [(m2 : Int), c2])] ++ rs.drop (i + 2))) := by
  cases h with
  | one h1 h2 o1 o2 a1 a2 hm ne w h5 hn h0 => exact ⟨_, _, _, _, _, _, _, _, _, _, _, _, _, _, _, _, _, h1, h2, o1, o2, a1, a2, .inl ⟨hm, ne, w, h5, hn, h0, rfl, rfl⟩⟩
  | two h1 h2 o1 o2 a1 a2 hm w1 w2 => exact ⟨_, _, _, _, _, _, _, _, _, _, _, _, _, _, _, _, _, h1, h2, o1, o2, a1, a2, .inr ⟨hm, w1, w2, rfl⟩⟩
theorem Join.r {k : Sk} {d d' : Sd} {rs rs' : List R} {i : Nat} (h : Join k d rs i d' rs') : d'.r = d.r := by
  cases h with
  | one h1 h2 o1 o2 a1 a2 hm ne w h5 hn h0 => rw [dropD_r, w.r, o2.r, o1.r]
  | two h1 h2 o1 o2 a1 a2 hm w1 w2 => rw [w2.r, w1.r, o2.r, o1.r]
theorem WithC.r {k : Sk} {d d' : Sd} {rs rs' : List R} {i cn : Nat} {cb : Int} (h : WithC k d rs i cn cb d' rs') : d'.r = d.r := by
  cases h with
  | ok nd h => rfl
  | join nd h j => exact j.r
theorem TakeB.r {k : Sk} {ks : List Int} {l : Nat} {d d' : Sd} {n n' : Nat} {b b' : Int} (h : TakeB k ks l d n b d' n' b') : d'.r = d.r := by
  induction h with
  | leaf o nd h w => rw [w.r, o.r]
  | inner o nd hc t w hl wr ih => rw [wr.r, w.r, ih, o.r]
section
variable {P : Program} {w : World} {K : PySem.W.Frag} {mg : Str → Option Value} {base : Heap} {c : Cc} {CN CE CO Pt Pf Pw aK : Addr}
theorem ok_jc {f f1 f2 f3 f4 f5 f6 : Addr} {fd fd1 fd2 fd3 fd4 fd5 fd6 : FuncData} (F : Fun K "join_children" "join_children" sJc f fd) (FOn : Fun K "own_node" "own_node" sOn f1 fd1) (GOn : FnOk P w K mg base CX0 9 f1 fd1 ["store", "pointer"] (spOn c Pt Pf Pw)) (bOn : Binds K fd1 ["store", "pointer"] []) (gOn : mg "own_node" = some (.ref f1))
    (FRn : Fun K "read_node" "read_node" sRn f2 fd2) (GRn : FnOk P w K mg base CX0 6 f2 fd2 ["store", "pointer"] (spRn K c Pt Pf Pw)) (bRn : Binds K fd2 ["store", "pointer"] []) (gRn : mg "read_node" = some (.ref f2)) (FSp : Fun K "split_items" "split_items" NN.sSplit f3 fd3) (GSp : FnOk P w K mg base CX0 1 f3 fd3 ["items", "most"] (NN.spSplit K)) (bSp : Binds K fd3 ["items", "most"] []) (gSp : mg "split_items" = some (.ref f3))
    (FMo : Fun K "most_items" "most_items" NN.sMost f4 fd4) (GMo : FnOk P w K mg base CX0 1 f4 fd4 ["kind"] NN.spMost) (bMo : Binds K fd4 ["kind"] []) (gMo : mg "most_items" = some (.ref f4)) (FWn : Fun K "write_node" "write_node" sWn f5 fd5) (GWn : FnOk P w K mg base CX0 7 f5 fd5 ["store", "kind", "items", "pointer"] (spWn K c Pt Pf Pw)) (bWn : Binds K fd5 ["store", "kind", "items", "pointer"] []) (gWn : mg "write_node" = some (.ref f5))
    (Gdrop : FnOk P w K mg base (L2.CX P w) 5 f6 fd6 ["self", "pointer"] (NT.spDrop c CN)) (bdrop : Binds K fd6 ["self", "pointer"] []) (mdrop : Meth K c.T "drop" f6) (TT : TxT mg K c.T) (T : NN.Txt mg K aK) : FnOk P w K mg base CX0 10 f fd ["store", "items", "at"] (spJc K c Pt Pf Pw) := by
  refine F.ok scJc (fun vs H Q E h => ?_) (fun cdv A outer s H vs Q E hr h => ?_)
  · obtain ⟨G, q, k, d, a, i, xs, rs, d', rs', rfl, _⟩ := h
    rfl
  · obtain ⟨G, q, k, d, a, i, xs, rs, d', rs', rfl, W, ha, hac, hR, hl90, hJ, qq⟩ := h
    refine ⟨_, (pss_cons (ps_set (i := 3) scJc.nd rfl (Or.inl rfl) (pe_call GOn (hr.mono (by omega)) (by rfl) gOn FOn.kp bOn .nil pass0 (pa_cons (pv 0) (pa_cons (pe_ix ix_tup (pe_ix ix_list (pv 1) (pv 2) (fun _ _ => rfl)) pe_int (fun _ _ => rfl)) pa_nil))))
      (pss_cons (ps_set (i := 4) scJc.nd rfl (Or.inl rfl) (pe_call GOn (hr.mono (by omega)) (by rfl) gOn FOn.kp bOn .nil pass0 (pa_cons (pv 0) (pa_cons (pe_ix ix_tup (pe_ix ix_list (pv 1) (pe_op op_add (pv 2) pe_int) (fun _ _ => rfl)) pe_int (fun _ _ => rfl)) pa_nil))))
      (pss_cons (ps_asg (pe_call GRn (hr.mono (by omega)) (by rfl) gRn FRn.kp bRn .nil pass0 (pa_cons (pv 0) (pa_cons (pv 3) pa_nil))) (pg_tup (by rfl) (pgs_cons (pg_name (i := 5) scJc.nd rfl (Or.inl rfl)) (pgs_cons (pg_name (i := 6) scJc.nd rfl (Or.inl rfl)) pgs_nil))))
      (pss_cons (ps_asg (pe_call GRn (hr.mono (by omega)) (by rfl) gRn FRn.kp bRn .nil pass0 (pa_cons (pv 0) (pa_cons (pv 4) pa_nil))) (pg_tup (by rfl) (pgs_cons (pg_name (i := 7) scJc.nd rfl (Or.inl rfl)) (pgs_cons (pg_name (i := 8) scJc.nd rfl (Or.inl rfl)) pgs_nil))))
      (pss_cons (ps_set (i := 9) scJc.nd rfl (Or.inl rfl) (pe_call GSp (hr.mono (by omega)) (by rfl) gSp FSp.kp bSp .nil pass0 (pa_cons (pe_op op_cat (pv 6) (pv 8)) (pa_cons (pe_call GMo (hr.mono (by omega)) (by rfl) gMo FMo.kp bMo .nil pass0 (pa_cons (pv 5) pa_nil)) pa_nil))))
      (pss_cons (ps_set (i := 10) scJc.nd rfl (Or.inl rfl) (pe_lst (pa_cons (pe_call GWn (hr.mono (by omega)) (by rfl) gWn FWn.kp bWn .nil pass0 (pa_cons (pv 0) (pa_cons (pv 5) (pa_cons (pe_ix ix_list (pv 9) pe_int (fun _ _ => rfl)) (pa_cons (pv 3) pa_nil))))) pa_nil)))
      (pss_cons (ps_if (pt_cmpR op_eq (pe_callB call_len_seq (by rfl) T.len (by decide +kernel) (pa_cons (pv 9) pa_nil)) pe_int (nomark _)) (pss_one (ps_expr (pe_meth (pv 0) TT.cl mdrop Gdrop (hr.mono (by omega)) bdrop .nil passL (pa_cons (pv 4) pa_nil)))) (pss_one (ps_expr (pe_bm PySem.F.plainAttrs_list PySem.F.slot_list_append PySem.F.type_list_append mt_append (pv 10) (pa_cons (pe_call GWn (hr.mono (by omega)) (by rfl) gWn FWn.kp bWn .nil pass0 (pa_cons (pv 0) (pa_cons (pv 5) (pa_cons (pe_ix ix_list (pv 9) pe_int (fun _ _ => rfl)) (pa_cons (pv 4) pa_nil))))) pa_nil)))))
      (pss_one (ps_ret (pe_op op_cat (pe_op op_cat (pe_slice sl_list (pv 1) po_none (po_some (pv 2))) (pv 10)) (pe_slice sl_list (pv 1) (po_some (pe_op op_add (pv 2) pe_int)) po_none))))))))))), ?_⟩
    obtain ⟨d1, d2, d3, r1, r2, n1, n2, m1, m2, b1, b2, c1, c2, kd, kd2, k1, k2, h1, h2, o1, o2, a1, a2, hcase⟩ := hJ.inv
    obtain ⟨t0, kk, vv, x1, x2, x3⟩ := ptr_at hR h1
    obtain ⟨t0', kk', vv', y1, y2, y3⟩ := ptr_at hR h2
    have hm := most_ge a1.hk
    refine q_run (vs := [.ref q, .ref vv]) (ea_cons (ev_var rfl) (ea_cons (ev_op (ev_op (ev_var rfl) (ev_var rfl) (rv_ixL (sq_of ha) (atI_nat x1))) ev_c (rv_ixT (st_of x2) (atI_nat (j := 1) rfl))) ea_nil)) fun H1 e1 => ⟨G, q, k, d, vv, n1, b1, d1, m1, c1, rfl, W.ex e1, e1 _ _ x3, o1, fun G1 H2 v S2 F2 T2 R2 => ?_⟩
    obtain ⟨t1, rfl, ht1⟩ := R2
    have ft2 := (FT.of e1).trans (ft_of (W.ex e1).st F2)
    have W2 := (W.ex e1).ch (ft_of (W.ex e1).st F2) T2 o1.r
    have ha2 := Fm.l (W.ex e1).st F2 (e1 _ _ ha) hac
    refine q_run (vs := [.ref q, .ref vv']) (ea_cons (ev_var rfl) (ea_cons (ev_op (ev_op (ev_var rfl) (ev_op (ev_var rfl) ev_c rv_I0) (rv_ixL (sq_of ha2) (at_of (show (i : Int) + 1 = ((i + 1 : Nat) : Int) by push_cast; rfl) y1))) ev_c (rv_ixT (st_of (ft2.t y2)) (atI_nat (j := 1) rfl))) ea_nil)) fun H3 e3 => ⟨G1, q, k, d1, vv', n2, b2, d2, m2, c2, rfl, W2.ex e3, e3 _ _ (ft2.t y3), o2, fun G2 H4 v S4 F4 T4 R4 => ?_⟩
    obtain ⟨t2, rfl, ht2⟩ := R4
    have ft4' := ft_of (W2.ex e3).st F4
    have ft4 := ft2.trans ((FT.of e3).trans ft4')
    have W4 := (W2.ex e3).ch ft4' T4 o2.r
    have ha4 := Fm.l (W2.ex e3).st F4 (e3 _ _ ha2) hac
    have ht14 := ft4'.t (e3 _ _ ht1)
    have S04 := (St.pre e1 S2).trans (St.pre e3 S4)
    have F04 := (Fm.pre e1 F2).trans (Fm.pre e3 F4)
    refine q_unpC (vs := [.ref q, .ref t1]) (ea_cons (ev_var rfl) (ea_cons (ev_var rfl) ea_nil)) (fun H5 e5 => ⟨G2, q, k, d2, t1, m1, [.int c1], kd, r1, rfl, W4.ex e5, e5 _ _ ht14, a1, fun tu it1 xs1 H6 htu hit1 e6 g1 g2 hR1 => ⟨tu, _, _, rfl, g1, ?_⟩⟩) (fun _ _ _ m h => spRn_mono m h)
    have e56 := e5.trans e6
    refine q_unpC (vs := [.ref q, .ref t2]) (ea_cons (ev_var rfl) (ea_cons (ev_var rfl) ea_nil)) (fun H7 e7 => ⟨G2, q, k, d2, t2, m2, [.int c2], kd2, r2, rfl, W4.ex (e56.trans e7), (e56.trans e7) _ _ ht2, a2, fun tu2 it2 xs2 H8 htu2 hit2 e8 g3 g4 hR2 => ⟨tu2, _, _, rfl, g3, ?_⟩⟩) (fun _ _ _ m h => spRn_mono m h)
    have e78 := e7.trans e8
    have e48 := e56.trans e78
    have l1 := hR1.len
    have l2 := hR2.len
    have q1 := a1.len
    have q2 := a2.len
    have hR12 : Rows K H8 (xs1 ++ xs2) (r1 ++ r2) := (hR1.mono e78).app hR2
    have l12 := hR12.len
    have hdrop : ∀ (B : Hp), B a = some (.lst xs) → ∀ {σ : L2.St}, σ[1]? = some (some (.ref a)) → σ[2]? = some (some (.int (i : Int))) → EvL (tSl (rSlL K) (tVar 1) (tPart (tOp (rI0 fun i j => .int (i + j)) (tVar 2) (tC (.int 2)))) tNoPart) σ B (xs.drop (i + 2)) := fun B hB σ s1 s2 => el_is (el_sl (ev_var s1) (eo_some (ev_op (ev_var s2) ev_c rv_I0)) eo_none (sq_of hB)) (cut_hi xs (i + 2))
    have htake : ∀ (B : Hp), B a = some (.lst xs) → ∀ {σ : L2.St}, σ[1]? = some (some (.ref a)) → σ[2]? = some (some (.int (i : Int))) → EvL (tSl (rSlL K) (tVar 1) tNoPart (tPart (tVar 2))) σ B (xs.take i) := fun B hB σ s1 s2 => el_is (el_sl (ev_var s1) eo_none (eo_some (ev_var s2)) (sq_of hB)) (cut_lo xs i)
    have hlx := hR.len
    have hlt : (xs.take i).length ≤ 90 := by rw [List.length_take]; omega
    have hld : (xs.drop (i + 2)).length ≤ 90 := by rw [List.length_drop]; omega
    refine q_runL (vs := [.int (most kd)]) (el_catVV (ev_var rfl) (e78 _ _ g2) (ev_var rfl) g4 (by omega)) (ea_cons (ev_call (vs := [.int kd]) (ea_cons (ev_var rfl) ea_nil) (sv_most a1.hk)) ea_nil) fun pc H9 hpc e9 g9 => ⟨pc, xs1 ++ xs2, most kd, rfl, sq_of g9, by rw [List.length_append]; omega, fun hle => ?_, fun hgt => ?_⟩
    · obtain ⟨hm1, ne, w, h5, hn, h0, rfl, rfl⟩ := hcase.resolve_right fun z => by omega
      intro p l HA hp hl eA hA1 hA2
      have e49 := (e48.trans e9).trans eA
      have hR12A := hR12.mono (e9.trans eA)
      refine q_lstC (vs := [.ref q, .int kd, .ref l, .ref t1]) (ea_cons (ev_var rfl) (ea_cons (ev_var rfl) (ea_cons (ev_op (ev_var rfl) ev_c (rv_ixL (sq_of hA1) (atI_nat (j := 0) rfl))) (ea_cons (ev_var rfl) ea_nil)))) fun HB eB => ⟨G2, q, k, d2, kd, l, t1, xs1 ++ xs2, r1 ++ r2, m1, c1, d3, rfl, W4.ex (e49.trans eB), eB _ _ hA2, (W4.ex (e48.trans e9)).nc hl, hR12A.mono eB, ne, (e49.trans eB) _ _ ht14, w, fun G' HC v S F' T' R => ⟨by show 1 ≤ sizeLine; decide, fun L hL => ?_⟩⟩
      obtain ⟨u, ku, rfl, z1, z2⟩ := R
      have e4B := e49.trans eB
      have eL := Ex.new (o := .lst [.ref u]) hL
      have ftB := ft_of (W4.ex e4B).st F'
      have hpL := eL _ _ (Fm.l (W4.ex e4B).st F' (eB _ _ hA1) ((W4.ex (e48.trans e9)).nc hp))
      have haL := eL _ _ (Fm.l (W4.ex e4B).st F' (e4B _ _ ha4) hac)
      have ht1L := eL _ _ (ftB.t (e4B _ _ ht14))
      have ht2L := eL _ _ (ftB.t (e4B _ _ ht2))
      have hLL : (L2.upd HC L (.lst [.ref u])) L = some (.lst [.ref u]) := upd_same
      have TL := T'.ex eL
      have SL := St.go (S04.trans (St.pre e4B S)) eL
      have FL := Fm.go (F04.trans (Fm.pre e4B F')) eL
      have ft0L := ft4.trans (((FT.of e4B).trans ftB).trans (FT.of eL))
      have ncL := (ST.ne T' hL).2.1
      have hL0 : H L = none := fb F04 T4 (fresh_back e4B (fb F' T' hL))
      have z1L := eL _ _ z1
      have z2L := eL _ _ z2
      generalize L2.upd HC L (.lst [.ref u]) = HD at *
      refine q_if (b := true) (et_is (et_test (ev_op (ev_is (w := .int 1) (ev_lenL (ev_var rfl) hpL) rfl) ev_c (rv_eq rfl))) (decide_eq_true rfl)) (fun _ HE eE => ?_) (fun h => by cases h)
      obtain ⟨dx, ho⟩ := (TL.ex eE).o
      refine s_m (ev_var rfl) ho (tno (.inr (.inr (.inr (.inr (.inr (.inr (.inr (.inr (.inl rfl)))))))))) (ea_cons (ev_var rfl) ea_nil) fun HF eF => ⟨G', q, k, d3, t2, (m2 : Int), [.int c2], rfl, TL.ex (eE.trans eF), (eE.trans eF) _ _ ht2L, fun j hj hjn hj5 hj0 HG FG TG => ?_, fun hno => absurd ⟨by omega, by omega, by omega, by rw [Int.toNat_natCast]; exact h0⟩ hno⟩
      have : j = m2 := by omega
      subst this
      have eDF := eE.trans eF
      have ftG := ft_of (TL.ex eDF) FG
      have hLG := Fm.l (TL.ex eDF) FG (eDF _ _ hLL) ncL
      have haG := Fm.l (TL.ex eDF) FG (eDF _ _ haL) hac
      refine s_retL (el_cat2 (el_catM (htake _ haG rfl rfl) (ev_var rfl) hLG (by rw [List.length_singleton]; omega)) (hdrop _ haG rfl rfl) (by rw [List.length_append, List.length_singleton]; omega)) fun L2' HH hL2 eH hH => ?_
      have SG := SL.trans (St.pre eDF (NT.st_of' FG TG))
      have FG' := FL.trans (Fm.pre eDF FG)
      have ftH := ft0L.trans ((FT.of eDF).trans (ftG.trans (FT.of eH)))
      have ftDH := ((FT.of eDF).trans (ftG.trans (FT.of eH)))
      have r0 := ftH.rows hR
      exact qq G' HH (.ref L2') (St.go SG eH) (Fm.go FG' eH) (TG.ex eH) ⟨L2', _, rfl, fb FG' TG hL2, hH, ((r0.take _).app (.cons (r := (k0 (r1 ++ r2), [(m1 : Int), c1])) (ftDH.t z1L) (ftDH.t z2L) (ftDH.t ht1L) .nil)).app (r0.drop _)⟩
    · obtain ⟨hm1, w1, w2, rfl⟩ := hcase.resolve_left fun z => by omega
      intro p l m HA hp hl hmn nlm eA hA1 hA2 hA3
      have ehalf : ((xs1 ++ xs2).length + 1) / 2 = half (r1 ++ r2) := by unfold half; rw [l12]
      have hh0 : 0 < half (r1 ++ r2) := by unfold half; omega
      have hh1 : half (r1 ++ r2) < (r1 ++ r2).length := by unfold half; omega
      rw [ehalf] at hA2 hA3
      have e49 := (e48.trans e9).trans eA
      have hR12A := hR12.mono (e9.trans eA)
      refine q_lstC (vs := [.ref q, .int kd, .ref l, .ref t1]) (ea_cons (ev_var rfl) (ea_cons (ev_var rfl) (ea_cons (ev_op (ev_var rfl) ev_c (rv_ixL (sq_of hA1) (atI_nat (j := 0) rfl))) (ea_cons (ev_var rfl) ea_nil)))) fun HB eB => ⟨G2, q, k, d2, kd, l, t1, _, _, m1, c1, d3, rfl, W4.ex (e49.trans eB), eB _ _ hA2, (W4.ex (e48.trans e9)).nc hl, (hR12A.mono eB).take _, fun z => by
        have := congrArg List.length z
        rw [List.length_take, List.length_nil] at this
        omega, (e49.trans eB) _ _ ht14, w1, fun G' HC v S F' T' R => ⟨by show 1 ≤ sizeLine; decide, fun L hL => ?_⟩⟩
      obtain ⟨u, ku, rfl, z1, z2⟩ := R
      have e4B := e49.trans eB
      have eL := Ex.new (o := .lst [.ref u]) hL
      have ftB := ft_of (W4.ex e4B).st F'
      have ncm := (W4.ex (e48.trans e9)).nc hmn
      have hpL := eL _ _ (Fm.l (W4.ex e4B).st F' (eB _ _ hA1) ((W4.ex (e48.trans e9)).nc hp))
      have hmL := eL _ _ (Fm.l (W4.ex e4B).st F' (eB _ _ hA3) ncm)
      have haL := eL _ _ (Fm.l (W4.ex e4B).st F' (e4B _ _ ha4) hac)
      have ht1L := eL _ _ (ftB.t (e4B _ _ ht14))
      have ht2L := eL _ _ (ftB.t (e4B _ _ ht2))
      have hLL : (L2.upd HC L (.lst [.ref u])) L = some (.lst [.ref u]) := upd_same
      have WL := ((W4.ex e4B).ch ftB T' w1.r).ex eL
      have SL := St.go (S04.trans (St.pre e4B S)) eL
      have FL := Fm.go (F04.trans (Fm.pre e4B F')) eL
      have ft4L := ((FT.of e4B).trans ftB).trans (FT.of eL)
      have ft0L := ft4.trans ft4L
      have hR12L := (ftB.rows (hR12A.mono eB)).mono eL
      have ncL := (ST.ne T' hL).2.1
      have hL0 : H L = none := fb F04 T4 (fresh_back e4B (fb F' T' hL))
      have gL' : G' L = none := fresh_back T'.dk.g hL
      have z1L := eL _ _ z1
      have z2L := eL _ _ z2
      generalize L2.upd HC L (.lst [.ref u]) = HD at *
      refine q_if (b := false) (et_is (et_test (ev_op (ev_is (w := .int 2) (ev_lenL (ev_var rfl) hpL) rfl) ev_c (rv_eq rfl))) (by decide +kernel)) (fun h => by cases h) (fun _ HE eE => ?_)
      refine s_appC (vs := [.ref q, .int kd, .ref m, .ref t2]) (eE _ _ hLL) (ev_var rfl) (ea_cons (ev_var rfl) (ea_cons (ev_var rfl) (ea_cons (ev_op (ev_var rfl) ev_c (rv_ixL (sq_of (eE _ _ hpL)) (atI_nat (j := 1) rfl))) (ea_cons (ev_var rfl) ea_nil)))) fun HF eF => ⟨G', q, k, d3, kd, m, t2, _, _, m2, c2, d', rfl, WL.ex (eE.trans eF), (eE.trans eF) _ _ hmL, ncm, (hR12L.mono (eE.trans eF)).drop _, fun z => by
        have := congrArg List.length z
        rw [List.length_drop, List.length_nil] at this
        omega, (eE.trans eF) _ _ ht2L, w2, fun G3 HG v3 S3 F3 T3 R3 => ?_⟩
      obtain ⟨u3, ku3, rfl, y13, y23⟩ := R3
      have eDF := eE.trans eF
      have ftG := ft_of (WL.ex eDF).st F3
      have hLG := Fm.l (WL.ex eDF).st F3 (eDF _ _ hLL) ncL
      have haG := Fm.l (WL.ex eDF).st F3 (eDF _ _ haL) hac
      refine ⟨L, [.ref u], .ref u3, rfl, rfl, hLG, by show 1 < sizeLine; decide, ?_⟩
      have gL3 : G3 L = none := S3.n L (by rw [eDF _ _ hLL]; exact fun z => by cases z) gL'
      have TU := ST.up (o := .lst ([.ref u] ++ [.ref u3])) T3 T' hL gL3
      have ftu : FT HG (L2.upd HG L (.lst ([.ref u] ++ [.ref u3]))) := FT.upL hLG
      have haU : (L2.upd HG L (.lst ([.ref u] ++ [.ref u3]))) a = some (.lst xs) := by
        rw [upd_ne (ne_of_none ha hL0)]
        exact haG
      have hLU : (L2.upd HG L (.lst ([.ref u] ++ [.ref u3]))) L = some (.lst [.ref u, .ref u3]) := upd_same
      have SU := ND.St.upd (a := L) (o := .lst ([.ref u] ++ [.ref u3])) (SL.trans (St.pre eDF S3))
      have FU := Fm.up (o := .lst ([.ref u] ++ [.ref u3])) (FL.trans (Fm.pre eDF F3)) hL0
      have ftDU := ((FT.of eDF).trans ftG).trans ftu
      have y13U := ftu.t y13
      have y23U := ftu.t y23
      generalize L2.upd HG L (.lst ([.ref u] ++ [.ref u3])) = HU at *
      dsimp only
      refine s_retL (el_cat2 (el_catM (htake _ haU rfl rfl) (ev_var rfl) hLU (by show _ + 2 ≤ _; omega)) (hdrop _ haU rfl rfl) (by rw [List.length_append]; show _ + 2 + _ ≤ _; omega)) fun L2' HH hL2 eH hH => ?_
      have ftDH := ftDU.trans (FT.of eH)
      have r0 := (ft0L.trans ftDH).rows hR
      exact qq G3 HH (.ref L2') (St.go SU eH) (Fm.go FU eH) (TU.ex eH) ⟨L2', _, rfl, fb FU TU hL2, hH, ((r0.take _).app (.cons (r := (k0 ((r1 ++ r2).take (half (r1 ++ r2))), [(m1 : Int), c1])) (ftDH.t z1L) (ftDH.t z2L) (ftDH.t ht1L) (.cons (r := (k0 ((r1 ++ r2).drop (half (r1 ++ r2))), [(m2 : Int), c2])) (eH _ _ y13U) (eH _ _ y23U) (ftDH.t ht2L) .nil))).app (r0.drop _)⟩
end

end NR

set_option Elab.async false
set_option linter.all false
set_option maxRecDepth 100000
set_option maxHeartbeats 4000000
namespace NR
open PySem PySem.Spec PyProof.Rows L2 Evl LK LT LG LS LQ LX LO LP LV StX SL
open ND (DK Dk St)
open NS (fr cv hv headV)
open NT (Cc Sk Sd ST Fm cont newB fre setM dropD TxT TxH tno)
open NN (R Rows asc most ptr Wf ptrs cntLt cntLe)
def spTa (c : Cc) (Pt Pf Pw : Addr) (l : Nat) : Sp := fun us H Q _ => ∃ (G : Hp) (q : Addr) (k : Sk) (d : Sd) (t kq : Addr) (n l0 : Nat) (b : Int) (ks : List Int) (o : Option (List Int)), us = [.ref q, .ref t, .ref kq] ∧ W3 c Pt Pf Pw G H q k d ∧ H t = some (.tup [.int (n : Int), .int b]) ∧ H kq = some (.tup (ks.map V.int)) ∧ Lk k d ks l0 n o ∧
  (o = none → ∀ u H1, Ex H H1 → H1 u = some (.tup [.ref t, .non]) → Q (.ref u) H1) ∧
  ∀ v, o = some v → ∃ (d1 d' : Sd) (n1 n' : Nat) (b1 b' : Int) (l' : Nat), TakeB k ks l d n b d1 n1 b1 ∧ Wor k l' d1 n1 b1 d' n' b' ∧ Po c G H q k d' (fun H1 x => ∃ u t' a, x = .ref u ∧ H1 u = some (.tup [.ref t', .ref a]) ∧ H1 t' = some (.tup [.int (n' : Int), .int b']) ∧ H1 a = some (.tup (v.map V.int))) Q
theorem Wor.r {k : Sk} {l : Nat} {d d' : Sd} {n n' : Nat} {b b' : Int} (h : Wor k l d n b d' n' b') : d'.r = d.r := by
  induction h with
  | stop nd h => rfl
  | go nd h0 w ih => rw [ih, dropD_r]
theorem WithC.inv {k : Sk} {d d' : Sd} {rs rs' : List R} {i cn : Nat} {cb : Int} (h : WithC k d rs i cn cb d' rs') : ∃ (kd : Int) (cr : List R), Nd k d cn kd cr ∧ ((2 ≤ cr.length ∧ d' = d ∧ rs' = rs.take i ++ [(k0 cr, [(cn : Int), cb])] ++ rs.drop (i + 1)) ∨ (cr.length = 1 ∧ Join k d (rs.take i ++ [(k0 cr, [(cn : Int), cb])] ++ rs.drop (i + 1)) (i - 1) d' rs')) := by
  cases h with
  | ok nd h => exact ⟨_, _, nd, .inl ⟨h, rfl, rfl⟩⟩
  | join nd h j => exact ⟨_, _, nd, .inr ⟨h, j⟩⟩
theorem Wor.inv {k : Sk} {l : Nat} {d d' : Sd} {n n' : Nat} {b b' : Int} (h : Wor k l d n b d' n' b') : ∃ (kd : Int) (rs : List R), Nd k d n kd rs ∧ ((¬ (kd = 2 ∧ rs.length = 1) ∧ d' = d ∧ n' = n ∧ b' = b) ∨ (∃ (m cn : Nat) (cb : Int) (ck : List Int), l = m + 1 ∧ kd = 2 ∧ rs = [(ck, [(cn : Int), cb])] ∧ cv d.cs n ≠ 0 ∧ Wor k m (dropD d n) cn cb d' n' b')) := by
  cases h with
  | stop nd h => exact ⟨_, _, nd, .inl ⟨h, rfl, rfl, rfl⟩⟩
  | go nd h0 w => exact ⟨_, _, nd, .inr ⟨_, _, _, _, rfl, rfl, rfl, h0, w⟩⟩
section
variable {P : Program} {w : World} {K : PySem.W.Frag} {mg : Str → Option Value} {base : Heap} {c : Cc} {CN CE CO Pt Pf Pw aK : Addr}
theorem ok_wc {f f1 f2 f3 : Addr} {fd fd1 fd2 fd3 : FuncData} (F : Fun K "with_child" "with_child" sWc f fd) (FRn : Fun K "read_node" "read_node" sRn f1 fd1) (GRn : FnOk P w K mg base CX0 6 f1 fd1 ["store", "pointer"] (spRn K c Pt Pf Pw)) (bRn : Binds K fd1 ["store", "pointer"] []) (gRn : mg "read_node" = some (.ref f1))
    (FIi : Fun K "inner_item" "inner_item" sIi f2 fd2) (GIi : FnOk P w K mg base CX0 1 f2 fd2 ["items", "pointer"] (spIi K)) (bIi : Binds K fd2 ["items", "pointer"] []) (gIi : mg "inner_item" = some (.ref f2)) (FJc : Fun K "join_children" "join_children" sJc f3 fd3) (GJc : FnOk P w K mg base CX0 10 f3 fd3 ["store", "items", "at"] (spJc K c Pt Pf Pw)) (bJc : Binds K fd3 ["store", "items", "at"] []) (gJc : mg "join_children" = some (.ref f3))
    (T : NN.Txt mg K aK) (gLI : ∃ t, mg "LEAST_ITEMS" = some (.int 2 t)) : FnOk P w K mg base CX0 11 f fd ["store", "items", "at", "child"] (spWc K c Pt Pf Pw) := by
  obtain ⟨_, gLEAST_ITEMS⟩ := gLI
  refine F.ok scWc (fun vs H Q E h => ?_) (fun cdv A outer s H vs Q E hr h => ?_)
  · obtain ⟨G, q, k, d, a, t, i, cn, cb, xs, rs, d', rs', rfl, _⟩ := h
    rfl
  · obtain ⟨G, q, k, d, a, t, i, cn, cb, xs, rs, d', rs', rfl, W, ha, hac, hR, hl5, ht, hW, qq⟩ := h
    refine ⟨_, (pss_cons (ps_asg (pe_call GRn (hr.mono (by omega)) (by rfl) gRn FRn.kp bRn .nil pass0 (pa_cons (pv 0) (pa_cons (pv 3) pa_nil))) (pg_tup (by rfl) (pgs_cons (pg_name (i := 4) scWc.nd rfl (Or.inl rfl)) (pgs_cons (pg_name (i := 5) scWc.nd rfl (Or.inl rfl)) pgs_nil))))
      (pss_cons (ps_set (i := 6) scWc.nd rfl (Or.inl rfl) (pe_op op_cat (pe_op op_cat (pe_slice sl_list (pv 1) po_none (po_some (pv 2))) (pe_lst (pa_cons (pe_call GIi (hr.mono (by omega)) (by rfl) gIi FIi.kp bIi .nil pass0 (pa_cons (pv 5) (pa_cons (pv 3) pa_nil))) pa_nil))) (pe_slice sl_list (pv 1) (po_some (pe_op op_add (pv 2) pe_int)) po_none)))
      (pss_cons (ps_if (pt_cmpR op_lt (pe_callB call_len_seq (by rfl) T.len (by decide +kernel) (pa_cons (pv 5) pa_nil)) (pe_glob (v := .int 2) rfl gLEAST_ITEMS ⟨_, rfl⟩) (nomark _)) (pss_one (ps_ret (pe_call GJc (hr.mono (by omega)) (by rfl) gJc FJc.kp bJc .nil pass0 (pa_cons (pv 0) (pa_cons (pv 6) (pa_cons (pe_callB (call_max2 rfl) (by rfl) T.max (by decide +kernel) (pa_cons (pe_op op_sub (pv 2) pe_int) (pa_cons pe_int pa_nil))) pa_nil)))))) pss_nil)
      (pss_one (ps_ret (pv 6)))))), ?_⟩
    obtain ⟨kd, cr, nd, hcase⟩ := hW.inv
    have hlx := hR.len
    have hc5 := nd.len
    refine q_unpC (vs := [.ref q, .ref t]) (ea_cons (ev_var rfl) (ea_cons (ev_var rfl) ea_nil)) (fun H1 e1 => ⟨G, q, k, d, t, cn, [.int cb], kd, cr, rfl, W.ex e1, e1 _ _ ht, nd, fun tu it ys H2 htu hit e2 g1 g2 hRc => ⟨tu, _, _, rfl, g1, ?_⟩⟩) (fun _ _ _ m h => spRn_mono m h)
    have e12 := e1.trans e2
    have hly := hRc.len
    have hne : cr ≠ [] := fun z => by
      rw [z] at hcase
      rcases hcase with ⟨h, _⟩ | ⟨h, _⟩
      · exact absurd h (by decide)
      · exact absurd h (by decide)
    have a2 := e12 _ _ ha
    refine q_catI (vs := [.ref it, .ref t]) (R := fun H v => InR K cr t H v) (el_is (el_sl (ev_var rfl) eo_none (eo_some (ev_var rfl)) (sq_of a2)) (cut_lo xs i)) (ea_cons (ev_var rfl) (ea_cons (ev_var rfl) ea_nil)) (fun B b Q' q' => ⟨it, t, ys, cr, rfl, sq_of (b _ _ g2), hRc.mono b, hne, fun u kk B2 hu b2 y1 y2 => q' _ B2 b2 ⟨u, kk, rfl, y1, y2⟩⟩) (el_is (el_sl (ev_var rfl) (eo_some (ev_is (ev_op (ev_var rfl) ev_c rv_I0) (w := .int ((i + 1 : Nat) : Int)) (by push_cast; rfl))) eo_none (sq_of a2)) (cut_hi xs (i + 1))) (by rw [List.length_take, List.length_drop]; omega) (fun _ _ _ e h => h.ex e) fun v L H3 hL e3 hv h3 => ?_
    obtain ⟨u, kk, rfl, y1, y2⟩ := hv
    have e13 := e12.trans e3
    have hR3 : Rows K H3 (xs.take i ++ [.ref u] ++ xs.drop (i + 1)) (rs.take i ++ [(k0 cr, [(cn : Int), cb])] ++ rs.drop (i + 1)) := ((((hR.mono e13)).take _).app (.cons (r := (k0 cr, [(cn : Int), cb])) y1 y2 (e13 _ _ ht) .nil)).app ((hR.mono e13).drop _)
    have hl7 : (rs.take i ++ [(k0 cr, [(cn : Int), cb])] ++ rs.drop (i + 1)).length ≤ 90 := by
      rw [List.length_append, List.length_append, List.length_take, List.length_drop, List.length_singleton]
      omega
    have hlen : ∀ {σ : L2.St}, σ[5]? = some (some (.ref it)) → Ev (tCB (rLenS K) (tCons (tVar 5) tNil)) σ H3 (.int (cr.length : Int)) := fun h => ev_is (ev_lenL (ev_var h) (e3 _ _ g2)) (by rw [hly])
    rcases hcase with ⟨h2, rfl, rfl⟩ | ⟨h1, hJ⟩
    · refine q_when (b := false) (et_is (et_test (ev_op (hlen rfl) ev_c rv_I0)) (decide_eq_false (by omega))) (fun h => by cases h) (fun _ H4 e4 => ?_)
      refine s_ret (ev_var rfl) fun H5 e5 => ?_
      have e35 := e4.trans e5
      have e15 := e13.trans e35
      exact qq G H5 (.ref L) (NT.St.of e15) (NT.Fm.of e15) (W.st.ex e15) ⟨L, _, rfl, fresh_back e12 hL, e35 _ _ h3, hR3.mono e35⟩
    · refine q_when (b := true) (et_is (et_test (ev_op (hlen rfl) ev_c rv_I0)) (decide_eq_true (by omega))) (fun _ H4 e4 => ?_) (fun h => by cases h)
      refine r_callC (vs := [.ref q, .ref L, .int ((i - 1 : Nat) : Int)]) (ea_cons (ev_var rfl) (ea_cons (ev_var rfl) (ea_cons (ev_is (ev_max2 (ev_op (ev_var rfl) ev_c rv_I0) ev_c) (by
        congr 1
        split <;> omega)) ea_nil))) fun H5 e5 => ?_
      have e35 := e4.trans e5
      have e15 := e13.trans e35
      exact ⟨G, q, k, d, L, i - 1, _, _, d', rs', rfl, W.ex e15, e35 _ _ h3, (W.ex e12).nc hL, hR3.mono e35, hl7, hJ, fun G' H6 v S F' T' R => qq G' H6 v (St.pre e15 S) (Fm.pre e15 F') T' (R.back (NT.Fm.of e15) (W.st.ex e15))⟩
theorem ok_tb {f f1 f2 f3 f4 f5 f6 f7 : Addr} {fd fd1 fd2 fd3 fd4 fd5 fd6 fd7 : FuncData} (FTb : Fun K "take_below" "take_below" sTb f fd) (bTb : Binds K fd ["store", "pointer", "key"] []) (gTb : mg "take_below" = some (.ref f)) (FOn : Fun K "own_node" "own_node" sOn f1 fd1) (GOn : FnOk P w K mg base CX0 9 f1 fd1 ["store", "pointer"] (spOn c Pt Pf Pw)) (bOn : Binds K fd1 ["store", "pointer"] []) (gOn : mg "own_node" = some (.ref f1))
    (FRn : Fun K "read_node" "read_node" sRn f2 fd2) (GRn : FnOk P w K mg base CX0 6 f2 fd2 ["store", "pointer"] (spRn K c Pt Pf Pw)) (bRn : Binds K fd2 ["store", "pointer"] []) (gRn : mg "read_node" = some (.ref f2)) (FPl : Fun K "place_of" "place_of" NN.sPlace f3 fd3) (GPl : FnOk P w K mg base CX0 1 f3 fd3 ["items", "key"] (NN.spPlace K)) (bPl : Binds K fd3 ["items", "key"] []) (gPl : mg "place_of" = some (.ref f3))
    (FCh : Fun K "child_of" "child_of" NN.sChild f4 fd4) (GCh : FnOk P w K mg base CX0 1 f4 fd4 ["items", "key"] (NN.spChild K)) (bCh : Binds K fd4 ["items", "key"] []) (gCh : mg "child_of" = some (.ref f4)) (FWc : Fun K "with_child" "with_child" sWc f5 fd5) (GWc : FnOk P w K mg base CX0 11 f5 fd5 ["store", "items", "at", "child"] (spWc K c Pt Pf Pw)) (bWc : Binds K fd5 ["store", "items", "at", "child"] []) (gWc : mg "with_child" = some (.ref f5))
    (FTo : Fun K "to_block" "to_block" NN.sTo f6 fd6) (GTo : FnOk P w K mg base CX0 2 f6 fd6 ["kind", "items", "pointer"] (NN.spTo K Pt)) (bTo : Binds K fd6 ["kind", "items", "pointer"] []) (gTo : mg "to_block" = some (.ref f6)) (Gwrite : FnOk P w K mg base (L2.CX P w) 6 f7 fd7 ["self", "pointer", "words"] (NT.spWrite c CN Pw)) (bwrite : Binds K fd7 ["self", "pointer", "words"] []) (mwrite : Meth K c.T "write" f7) (TT : TxT mg K c.T) (T : NN.Txt mg K aK) : ∀ l : Nat, FnOk P w K mg base CX0 (12 + l) f fd ["store", "pointer", "key"] (spTb c Pt Pf Pw l)
  | 0 => by
    refine FTb.ok (k := 11) scTb (fun vs H Q E h => ?_) (fun cdv A outer s H vs Q E hr h => ?_)
    · obtain ⟨G, q, k, d, t, kq, n, b, ks, d', n', b', rfl, _⟩ := h
      rfl
    · obtain ⟨G, q, k, d, t, kq, n, b, ks, d', n', b', rfl, _, _, _, hP, _⟩ := h
      cases hP
  | l + 1 => by
    obtain ⟨_, gLEAF⟩ := T.gLEAF
    have GTb := ok_tb FTb bTb gTb FOn GOn bOn gOn FRn GRn bRn gRn FPl GPl bPl gPl FCh GCh bCh gCh FWc GWc bWc gWc FTo GTo bTo gTo Gwrite bwrite mwrite TT T l
    refine FTb.ok (k := 12 + l) scTb (fun vs H Q E h => ?_) (fun cdv A outer s H vs Q E hr h => ?_)
    · obtain ⟨G, q, k, d, t, kq, n, b, ks, d', n', b', rfl, _⟩ := h
      rfl
    · obtain ⟨G, q, k, d, t, kq, n, b, ks, d', n', b', rfl, W, ht, hkq, hP, qq⟩ := h
      refine ⟨_, (pss_cons (ps_set (i := 3) scTb.nd rfl (Or.inl rfl) (pe_call GOn (hr.mono (by omega)) (by rfl) gOn FOn.kp bOn .nil pass0 (pa_cons (pv 0) (pa_cons (pv 1) pa_nil))))
      (pss_cons (ps_asg (pe_call GRn (hr.mono (by omega)) (by rfl) gRn FRn.kp bRn .nil pass0 (pa_cons (pv 0) (pa_cons (pv 3) pa_nil))) (pg_tup (by rfl) (pgs_cons (pg_name (i := 4) scTb.nd rfl (Or.inl rfl)) (pgs_cons (pg_name (i := 5) scTb.nd rfl (Or.inl rfl)) pgs_nil))))
      (pss_cons (ps_if (pt_cmpR op_eq (pv 4) (pe_glob (v := .int 1) rfl gLEAF ⟨_, rfl⟩) (nomark _)) (pss_one (ps_delL (pv 5) (pe_call GPl (hr.mono (by omega)) (by rfl) gPl FPl.kp bPl .nil pass0 (pa_cons (pv 5) (pa_cons (pv 2) pa_nil))))) (pss_cons (ps_set (i := 6) scTb.nd rfl (Or.inl rfl) (pe_call GCh (hr.mono (by omega)) (by rfl) gCh FCh.kp bCh .nil pass0 (pa_cons (pv 5) (pa_cons (pv 2) pa_nil))))
      (pss_one (ps_set (i := 5) scTb.nd rfl (Or.inl rfl) (pe_call GWc (hr.mono (by omega)) (by rfl) gWc FWc.kp bWc .nil pass0 (pa_cons (pv 0) (pa_cons (pv 5) (pa_cons (pv 6) (pa_cons (pe_call GTb (hr.mono (by omega)) (by rfl) gTb FTb.kp bTb .nil pass0 (pa_cons (pv 0) (pa_cons (pe_ix ix_tup (pe_ix ix_list (pv 5) (pv 6) (fun _ _ => rfl)) pe_int (fun _ _ => rfl)) (pa_cons (pv 2) pa_nil)))) pa_nil)))))))))
      (pss_cons (ps_expr (pe_meth (pv 0) TT.cl mwrite Gwrite (hr.mono (by omega)) bwrite .nil passL (pa_cons (pv 3) (pa_cons (pe_call GTo (hr.mono (by omega)) (by rfl) gTo FTo.kp bTo .nil pass0 (pa_cons (pv 4) (pa_cons (pv 5) (pa_cons (pv 3) pa_nil)))) pa_nil))))
      (pss_one (ps_ret (pv 3))))))), ?_⟩
      -- the end: store.write(own, to_block(kind, items, own)); return own
      have fin : ∀ {G1 H1 : Hp} {d1 : Sd} {kd : Int} {it t1 : Addr} {xs : List V} {rs : List R} {y6 : Option V} {σ : L2.St}, σ = [some (.ref q), some (.ref t), some (.ref kq), some (.ref t1), some (.int kd), some (.ref it), y6] → W3 c Pt Pf Pw G1 H1 q k d1 → St G H G1 H1 → Fm H H1 q k → H1 it = some (.lst xs) → Rows K H1 xs rs → H1 t1 = some (.tup [.int (n' : Int), .int b']) → Wr k d1 kd rs n' b' d' →
          tSeq (tDrop (tMeth c.T "write" (NT.spWrite c CN Pw) [] E0 (tVar 0) (tCons (tVar 3) (tCons (tCall (NN.spTo K Pt) [] E0 (tCons (tVar 4) (tCons (tVar 5) (tCons (tVar 3) tNil)))) tNil)))) (tRet (tVar 3)) { nx := fun _ H' => Q .non H', rt := Q } σ H1 := fun {G1 H1 d1 kd it t1 xs rs y6 σ} hσ W1 S1 F1 hit hR1 ht1 hw => by
        subst hσ
        obtain ⟨wn, hb, hn, hw2, rfl⟩ := hw
        obtain ⟨dx, ho⟩ := W1.st.o
        refine ⟨.ref q, rfl, q, dx, _, rfl, ho, tno (.inr (.inr (.inr (.inr (.inr (.inr (.inl rfl))))))), .ref t1, rfl, .int kd, rfl, .ref it, rfl, .ref t1, rfl, ?_⟩
        refine ⟨kd, it, t1, xs, rs, (n' : Int), b', rfl, wn.hk, sq_of hit, hR1, wn.wf, wn.m, wn.a, st_of ht1, W1.t1, fun bl H2 hbl e2 h2 => ?_⟩
        refine ⟨G1, q, k, d1, t1, (n' : Int), [.int b'], bl, _, rfl, W1.st.ex e2, e2 _ _ ht1, h2, ND.kd_ints _, W1.t3.mono e2, fun hno => absurd ⟨by omega, by omega, by rw [Int.toNat_natCast]; exact hw2, okB_blk wn (by omega) hb⟩ hno, fun ws i hws h32 hnn hz hi hw3 G' H3 S F' T' => ?_⟩
        have := ints_inj hws
        subst this
        have hin : i = n' := by omega
        subst hin
        have ft := ft_of (W1.ex e2).st F'
        refine s_ret (ev_var rfl) fun H4 e4 => ?_
        exact qq G' H4 (.ref t1) (St.go (S1.trans (St.pre e2 S)) e4) (Fm.go (F1.trans (Fm.pre e2 F')) e4) (T'.ex e4) ⟨t1, rfl, e4 _ _ (ft.t (e2 _ _ ht1))⟩
      cases hP with
      | leaf o nd hlt w =>
        rename_i d1 rs
        refine q_run (vs := [.ref q, .ref t]) (ea_cons (ev_var rfl) (ea_cons (ev_var rfl) ea_nil)) fun H1 e1 => ⟨G, q, k, d, t, n, b, d1, n', b', rfl, W.ex e1, e1 _ _ ht, o, fun G1 H2 v S2 F2 T2 R2 => ?_⟩
        obtain ⟨t1, rfl, ht1⟩ := R2
        have ft2 := (FT.of e1).trans (ft_of (W.ex e1).st F2)
        have W2 := (W.ex e1).ch (ft_of (W.ex e1).st F2) T2 o.r
        refine q_unpC (vs := [.ref q, .ref t1]) (ea_cons (ev_var rfl) (ea_cons (ev_var rfl) ea_nil)) (fun H3 e3 => ⟨G1, q, k, d1, t1, n', [.int b'], 1, rs, rfl, W2.ex e3, e3 _ _ ht1, nd, fun tu it xs H4 htu hit e4 g1 g2 hR => ⟨tu, _, _, rfl, g1, ?_⟩⟩) (fun _ _ _ m h => spRn_mono m h)
        have e34 := e3.trans e4
        have ft4 := ft2.trans (FT.of e34)
        have hl5 := nd.len
        have hlen := hR.len
        refine q_if (b := true) (et_is (et_test (ev_op (ev_var rfl) ev_c (rv_eq rfl))) (decide_eq_true rfl)) (fun _ H5 e5 => ?_) (fun h => by cases h)
        refine s_delL (ev_var rfl) (ev_call (vs := [.ref it, .ref kq]) (ea_cons (ev_var rfl) (ea_cons (ev_var rfl) ea_nil)) (sv_place (e5 _ _ g2) (hR.mono e5) (by omega) (e5 _ _ (ft4.t hkq)))) (e5 _ _ g2) (by omega) (by omega) fun H6 e6 => ?_
        dsimp only
        have e56 := e5.trans e6
        have git : G1 it = none := fresh_back (T2.dk.g.trans e3) hit
        have ftu : FT H6 (L2.upd H6 it (.lst (xs.eraseIdx (cntLt rs ks)))) := FT.upL (e56 _ _ g2)
        have TB := ST.up (o := .lst (xs.eraseIdx (cntLt rs ks))) (T2.ex (e34.trans e56)) (W2.ex e3).st hit git
        have FB := Fm.up (o := .lst (xs.eraseIdx (cntLt rs ks))) (Fm.go (Fm.pre e1 F2) (e34.trans e56)) (fresh_back e1 (fb F2 T2 (fresh_back e3 hit)))
        have SB := ND.St.upd (a := it) (o := .lst (xs.eraseIdx (cntLt rs ks))) (St.go (St.pre e1 S2) (e34.trans e56))
        have ft2B := (FT.of (e34.trans e56)).trans ftu
        have r0 := ftu.rows (hR.mono e56)
        have hRB := (r0.take (cntLt rs ks)).app (r0.drop (cntLt rs ks + 1))
        rw [← List.eraseIdx_eq_take_drop_succ, ← List.eraseIdx_eq_take_drop_succ] at hRB
        exact fin rfl (W2.ch ft2B TB rfl) SB FB upd_same hRB (ft2B.t ht1) w
      | inner o nd hc tk wc hl90 wr =>
        rename_i d1 d2 d3 cn cn' cb cb' rs rs' ck
        refine q_run (vs := [.ref q, .ref t]) (ea_cons (ev_var rfl) (ea_cons (ev_var rfl) ea_nil)) fun H1 e1 => ⟨G, q, k, d, t, n, b, d1, n', b', rfl, W.ex e1, e1 _ _ ht, o, fun G1 H2 v S2 F2 T2 R2 => ?_⟩
        obtain ⟨t1, rfl, ht1⟩ := R2
        have ft2 := (FT.of e1).trans (ft_of (W.ex e1).st F2)
        have W2 := (W.ex e1).ch (ft_of (W.ex e1).st F2) T2 o.r
        refine q_unpC (vs := [.ref q, .ref t1]) (ea_cons (ev_var rfl) (ea_cons (ev_var rfl) ea_nil)) (fun H3 e3 => ⟨G1, q, k, d1, t1, n', [.int b'], 2, rs, rfl, W2.ex e3, e3 _ _ ht1, nd, fun tu it xs H4 htu hit e4 g1 g2 hR => ⟨tu, _, _, rfl, g1, ?_⟩⟩) (fun _ _ _ m h => spRn_mono m h)
        have e34 := e3.trans e4
        have ft4 := ft2.trans (FT.of e34)
        have hl5 := nd.len
        have hlen := hR.len
        obtain ⟨t3, kk, vv, x1, x2, x3⟩ := ptr_at hR hc
        refine q_if (b := false) (et_is (et_test (ev_op (ev_var rfl) ev_c (rv_eq rfl))) (by decide +kernel)) (fun h => by cases h) (fun _ H5 e5 => ?_)
        refine q_asg (ev_call (vs := [.ref it, .ref kq]) (ea_cons (ev_var rfl) (ea_cons (ev_var rfl) ea_nil)) (sv_child (e5 _ _ g2) (hR.mono e5) (by omega) (e5 _ _ (ft4.t hkq)))) fun H6 e6 => ?_
        have e56 := e5.trans e6
        refine s_nest4 (vs := [.ref q, .ref vv, .ref kq]) (v1 := .ref q) (v2 := .ref it) (v3 := .int (chI rs ks : Nat)) (ev_var rfl) (ev_var rfl) (ev_var rfl) (fun B b => ea_cons (ev_var rfl) (ea_cons (ev_op (ev_op (ev_var rfl) (ev_var rfl) (rv_ixL (sq_of ((e56.trans b) _ _ g2)) (atI_nat x1))) ev_c (rv_ixT (st_of ((e56.trans b) _ _ x2)) (atI_nat (j := 1) rfl))) (ea_cons (ev_var rfl) ea_nil))) fun H7 e7 => ?_
        have e57 := e56.trans e7
        have W7 := W2.ex (e34.trans e57)
        have ft7 := ft4.trans (FT.of e57)
        refine ⟨G1, q, k, d1, vv, kq, cn, cb, ks, d2, cn', cb', rfl, W7, e57 _ _ x3, ft7.t hkq, tk, fun G2 H8 v S8 F8 T8 R8 => ?_⟩
        obtain ⟨t8, rfl, ht8⟩ := R8
        have ft8 := ft_of W7.st F8
        have W8 := W7.ch ft8 T8 tk.r
        have hit8 := Fm.l W7.st F8 (e57 _ _ g2) ((W2.ex e3).nc hit)
        refine ⟨G2, q, k, d2, it, t8, chI rs ks, cn', cb', xs, rs, d3, rs', rfl, W8, hit8, (W2.ex e3).nc hit, ft8.rows (hR.mono e57), by omega, ht8, wc, fun G3 H9 v S9 F9 T9 R9 => ?_⟩
        obtain ⟨p9, ys, rfl, hp9, h9, hR9⟩ := R9
        dsimp only
        have ft9 := ft_of W8.st F9
        exact fin rfl (W8.ch ft9 T9 wc.r) (((St.go (St.pre e1 S2) (e34.trans e57)).trans S8).trans S9) (((Fm.go (Fm.pre e1 F2) (e34.trans e57)).trans F8).trans F9) h9 hR9 (ft9.t (ft8.t ((e34.trans e57) _ _ ht1))) wr
end

end NR

set_option Elab.async false
set_option linter.all false
set_option maxRecDepth 100000
set_option maxHeartbeats 4000000
namespace NR
open PySem PySem.Spec PyProof.Rows L2 Evl LK LT LG LS LQ LX LO LP LV StX SL
open ND (DK Dk St)
open NS (fr cv hv headV)
open NT (Cc Sk Sd ST Fm cont newB fre setM dropD TxT TxH tno)
open NN (R Rows asc most ptr Wf ptrs cntLt cntLe)
section
variable {K : PySem.W.Frag} {σ : L2.St} {H : Hp} {D : Ends} {sp sp2 : Sp} {E E2 : XK} {tA : TA} {vs : List V} {ta tb : TE} {v1 w : V}
/-- return (f(a, g(..)), b) -/
theorem r_nestT (h1 : Ev ta σ H v1) (h : ∀ H1, Ex H H1 → EvA tA σ H1 vs) (k : ∀ H1, Ex H H1 → sp2 vs H1 (fun v H2 => sp [v1, v] H2 (fun x H3 => tCons tb tNil σ H3 fun ys H4 => (x :: ys).length ≤ sizeLine ∧ ∀ p, H4 p = none → D.rt (.ref p) (upd H4 p (.tup (x :: ys)))) E) E2) : tRet (tTup (tCons (tCall sp [] E (tCons ta (tCons (tCall sp2 [] E2 tA) tNil))) (tCons tb tNil))) D σ H :=
  h1 H (Ex.refl _) _ fun H1 e1 => h H1 e1 H1 (Ex.refl _) _ fun H2 e2 => by
    rw [List.append_nil]
    exact k H2 (e1.trans e2)
end
section
variable {P : Program} {w : World} {K : PySem.W.Frag} {mg : Str → Option Value} {base : Heap} {c : Cc} {CN CE CO Pt Pf Pw aK : Addr}
theorem ok_wo {f f1 f2 : Addr} {fd fd1 fd2 : FuncData} (F : Fun K "without_old_roots" "without_old_roots" sWo f fd) (FRn : Fun K "read_node" "read_node" sRn f1 fd1) (GRn : FnOk P w K mg base CX0 6 f1 fd1 ["store", "pointer"] (spRn K c Pt Pf Pw)) (bRn : Binds K fd1 ["store", "pointer"] []) (gRn : mg "read_node" = some (.ref f1))
    (Gdrop : FnOk P w K mg base (L2.CX P w) 5 f2 fd2 ["self", "pointer"] (NT.spDrop c CN)) (bdrop : Binds K fd2 ["self", "pointer"] []) (mdrop : Meth K c.T "drop" f2) (TT : TxT mg K c.T) (T : NN.Txt mg K aK) : FnOk P w K mg base CX0 7 f fd ["store", "root"] (spWo c Pt Pf Pw) := by
  obtain ⟨_, gINNER⟩ := T.gINNER
  refine F.ok scWo (fun vs H Q E h => ?_) (fun cdv A outer s H vs Q E hr h => ?_)
  · obtain ⟨G, q, k, d, t, n, b, l, d', n', b', rfl, _⟩ := h
    rfl
  · obtain ⟨G, q, k, d, t, n, b, l, d', n', b', rfl, W, ht, hW, qq⟩ := h
    refine ⟨_, (pss_cons (ps_asg (pe_call GRn (hr.mono (by omega)) (by rfl) gRn FRn.kp bRn .nil pass0 (pa_cons (pv 0) (pa_cons (pv 1) pa_nil))) (pg_tup (by rfl) (pgs_cons (pg_name (i := 2) scWo.nd rfl (Or.inl rfl)) (pgs_cons (pg_name (i := 3) scWo.nd rfl (Or.inl rfl)) pgs_nil))))
      (pss_cons (ps_while PassesOwn.never (PW.pt (pw_and (pt_cmpR op_eq (pv 2) (pe_glob (v := .int 2) rfl gINNER ⟨_, rfl⟩) (nomark _)) (pw_and1 (pt_cmpR op_eq (pe_callB call_len_seq (by rfl) T.len (by decide +kernel) (pa_cons (pv 3) pa_nil)) pe_int (nomark _))))) (pss_cons (ps_expr (pe_meth (pv 0) TT.cl mdrop Gdrop (hr.mono (by omega)) bdrop .nil passL (pa_cons (pv 1) pa_nil)))
      (pss_cons (ps_set (i := 1) scWo.nd rfl (Or.inl rfl) (pe_ix ix_tup (pe_ix ix_list (pv 3) pe_int (fun _ _ => rfl)) pe_int (fun _ _ => rfl)))
      (pss_one (ps_asg (pe_call GRn (hr.mono (by omega)) (by rfl) gRn FRn.kp bRn .nil pass0 (pa_cons (pv 0) (pa_cons (pv 1) pa_nil))) (pg_tup (by rfl) (pgs_cons (pg_name (i := 2) scWo.nd rfl (Or.inl rfl)) (pgs_cons (pg_name (i := 3) scWo.nd rfl (Or.inl rfl)) pgs_nil))))))))
      (pss_one (ps_ret (pv 1))))), ?_⟩
    obtain ⟨kd, rs, nd, hcase⟩ := hW.inv
    refine q_unpC (vs := [.ref q, .ref t]) (ea_cons (ev_var rfl) (ea_cons (ev_var rfl) ea_nil)) (fun H1 e1 => ⟨G, q, k, d, t, n, [.int b], kd, rs, rfl, W.ex e1, e1 _ _ ht, nd, fun tu it xs H2 htu hit e2 g1 g2 hR => ⟨tu, _, _, rfl, g1, ?_⟩⟩) (fun _ _ _ m h => spRn_mono m h)
    have e12 := e1.trans e2
    refine q_while (fun m σ' B => ∃ G1 d1 n1 b1 t1 kd rs it xs, σ' = [some (.ref q), some (.ref t1), some (.int kd), some (.ref it)] ∧ W3 c Pt Pf Pw G1 B q k d1 ∧ St G H G1 B ∧ Fm H B q k ∧ B t1 = some (.tup [.int ((n1 : Nat) : Int), .int b1]) ∧ B it = some (.lst xs) ∧ it ≠ k.cl ∧ Rows K B xs rs ∧ Nd k d1 n1 kd rs ∧ ((¬ (kd = 2 ∧ rs.length = 1) ∧ d' = d1 ∧ n' = n1 ∧ b' = b1) ∨ (∃ (m' cn : Nat) (cb : Int) (ck : List Int), m = m' + 1 ∧ kd = 2 ∧ rs = [(ck, [(cn : Int), cb])] ∧ cv d1.cs n1 ≠ 0 ∧ Wor k m' (dropD d1 n1) cn cb d' n' b'))) l ⟨G, d, n, b, t, kd, rs, it, xs, rfl, W.ex e12, NT.St.of e12, NT.Fm.of e12, e12 _ _ ht, g2, (W.ex e1).nc hit, hR, nd, hcase⟩ ?_
    rintro m σ' B ⟨G1, d1, n1, b1, t1, kd, rs, it, xs, rfl, W1, S1, F1, ht1, hit, hnc, hR, nd, hcase⟩
    have hlen := hR.len
    refine ⟨decide (V.int kd = V.int 2) && decide (V.int (xs.length : Int) = V.int 1), et_and (et_test (ev_op (ev_var rfl) ev_c (rv_eq rfl))) (fun _ => et_test (ev_op (ev_lenL (ev_var rfl) hit) ev_c (rv_eq rfl))), fun hb B1 b1e => ?_, fun hb B1 b1e => ?_⟩
    · obtain ⟨hb1, hb2⟩ := Bool.and_eq_true_iff.mp hb
      have h2 : kd = 2 := V.int.inj (of_decide_eq_true hb1)
      have h1l : rs.length = 1 := by
        have := V.int.inj (of_decide_eq_true hb2)
        omega
      obtain ⟨m', cn, cb, ck, rfl, _, rfl, h0, hW'⟩ := hcase.resolve_left fun z => z.1 ⟨h2, h1l⟩
      obtain ⟨t3, kk, vv, x1, x2, x3⟩ := ptr_at (i := 0) hR rfl
      obtain ⟨kd', rs', nd', hcase'⟩ := hW'.inv
      refine ⟨fun σ2 B2 => ∃ G1 d1 n1 b1 t1 kd rs it xs, σ2 = [some (.ref q), some (.ref t1), some (.int kd), some (.ref it)] ∧ W3 c Pt Pf Pw G1 B2 q k d1 ∧ St G H G1 B2 ∧ Fm H B2 q k ∧ B2 t1 = some (.tup [.int ((n1 : Nat) : Int), .int b1]) ∧ B2 it = some (.lst xs) ∧ it ≠ k.cl ∧ Rows K B2 xs rs ∧ Nd k d1 n1 kd rs ∧ ((¬ (kd = 2 ∧ rs.length = 1) ∧ d' = d1 ∧ n' = n1 ∧ b' = b1) ∨ (∃ (m'' cn : Nat) (cb : Int) (ck : List Int), m' = m'' + 1 ∧ kd = 2 ∧ rs = [(ck, [(cn : Int), cb])] ∧ cv d1.cs n1 ≠ 0 ∧ Wor k m'' (dropD d1 n1) cn cb d' n' b')), fun σ2 B2 h => ⟨m', by omega, h⟩, ?_⟩
      obtain ⟨dx, ho⟩ := (W1.ex b1e).st.o
      refine q_m (ev_var rfl) ho (tno (.inr (.inr (.inr (.inr (.inr (.inr (.inr (.inr (.inl rfl)))))))))) (ea_cons (ev_var rfl) ea_nil) fun B2 b2 => ⟨G1, q, k, d1, t1, (n1 : Int), [.int b1], rfl, W1.st.ex (b1e.trans b2), (b1e.trans b2) _ _ ht1, fun j hj hjn hj5 hj0 B3 F3 T3 => ?_, fun hno => absurd ⟨by omega, by have := nd.hn; omega, by have := nd.h5; omega, by rw [Int.toNat_natCast]; exact h0⟩ hno⟩
      have : j = n1 := by omega
      subst this
      have b12 := b1e.trans b2
      have ft3 := ft_of (W1.st.ex b12) F3
      have W3' := (W1.ex b12).ch ft3 T3 rfl
      have hit3 := Fm.l (W1.st.ex b12) F3 (b12 _ _ hit) hnc
      refine q_asg (ev_op (ev_op (ev_var rfl) ev_c (rv_ixL (sq_of hit3) (atI_nat (j := 0) x1))) ev_c (rv_ixT (st_of (ft3.t (b12 _ _ x2))) (atI_nat (j := 1) rfl))) fun B4 b4 => ?_
      refine s_unpC (vs := [.ref q, .ref vv]) (ea_cons (ev_var rfl) (ea_cons (ev_var rfl) ea_nil)) (fun B5 b5 => ⟨G1, q, k, dropD d1 j, vv, cn, [.int cb], kd', rs', rfl, W3'.ex (b4.trans b5), (b4.trans b5) _ _ (ft3.t (b12 _ _ x3)), nd', fun tu it' xs' B6 htu hit' b6 g1 g2 hR' => ⟨tu, _, _, rfl, g1, ?_⟩⟩) (fun _ _ _ m h => spRn_mono m h)
      have b46 := (b4.trans b5).trans b6
      exact ⟨G1, dropD d1 j, cn, cb, vv, kd', rs', it', xs', rfl, W3'.ex b46, St.go (S1.trans (St.pre b12 (NT.st_of' F3 T3))) b46, Fm.go (F1.trans (Fm.pre b12 F3)) b46, b46 _ _ (ft3.t (b12 _ _ x3)), g2, (W3'.ex (b4.trans b5)).nc hit', hR', nd', hcase'⟩
    · have hno : ¬ (kd = 2 ∧ rs.length = 1) := fun z => by
        rw [z.1, show (xs.length : Int) = 1 by omega] at hb
        exact absurd hb (by decide +kernel)
      obtain ⟨_, rfl, rfl, rfl⟩ := hcase.resolve_right fun ⟨_, _, _, _, _, z1, z2, _⟩ => hno ⟨z1, by rw [z2]; rfl⟩
      refine s_ret (ev_var rfl) fun B2 b2 => ?_
      have b12 := b1e.trans b2
      exact qq G1 B2 (.ref t1) (St.go S1 b12) (Fm.go F1 b12) (W1.st.ex b12) ⟨t1, rfl, b12 _ _ ht1⟩
theorem ok_ta {l : Nat} {f f1 f2 f3 : Addr} {fd fd1 fd2 fd3 : FuncData} (F : Fun K "take" "take" sTa f fd) (FLu : Fun K "look_up" "look_up" sLu f1 fd1) (GLu : FnOk P w K mg base CX0 7 f1 fd1 ["store", "root", "key"] (spLu K c Pt Pf Pw)) (bLu : Binds K fd1 ["store", "root", "key"] []) (gLu : mg "look_up" = some (.ref f1))
    (FWo : Fun K "without_old_roots" "without_old_roots" sWo f2 fd2) (GWo : FnOk P w K mg base CX0 7 f2 fd2 ["store", "root"] (spWo c Pt Pf Pw)) (bWo : Binds K fd2 ["store", "root"] []) (gWo : mg "without_old_roots" = some (.ref f2)) (FTb : Fun K "take_below" "take_below" sTb f3 fd3) (GTb : FnOk P w K mg base CX0 (12 + l) f3 fd3 ["store", "pointer", "key"] (spTb c Pt Pf Pw l)) (bTb : Binds K fd3 ["store", "pointer", "key"] []) (gTb : mg "take_below" = some (.ref f3)) : FnOk P w K mg base CX0 (13 + l) f fd ["store", "root", "key"] (spTa c Pt Pf Pw l) := by
  rw [show 13 + l = (12 + l) + 1 by omega]
  refine F.ok (k := 12 + l) scTa (fun vs H Q E h => ?_) (fun cdv A outer s H vs Q E hr h => ?_)
  · obtain ⟨G, q, k, d, t, kq, n, l0, b, ks, o, rfl, _⟩ := h
    rfl
  · obtain ⟨G, q, k, d, t, kq, n, l0, b, ks, o, rfl, W, ht, hkq, hL, qN, qV⟩ := h
    refine ⟨_, (pss_cons (ps_set (i := 3) scTa.nd rfl (Or.inl rfl) (pe_call GLu (hr.mono (by omega)) (by rfl) gLu FLu.kp bLu .nil pass0 (pa_cons (pv 0) (pa_cons (pv 1) (pa_cons (pv 2) pa_nil)))))
      (pss_cons (ps_if (pt_cmpR op_isN (pv 3) pe_non (nomark _)) (pss_one (ps_ret (pe_tup (pa_cons (pv 1) (pa_cons pe_non pa_nil))))) pss_nil)
      (pss_one (ps_ret (pe_tup (pa_cons (pe_call GWo (hr.mono (by omega)) (by rfl) gWo FWo.kp bWo .nil pass0 (pa_cons (pv 0) (pa_cons (pe_call GTb (hr.mono (by omega)) (by rfl) gTb FTb.kp bTb .nil pass0 (pa_cons (pv 0) (pa_cons (pv 1) (pa_cons (pv 2) pa_nil)))) pa_nil))) (pa_cons (pv 3) pa_nil))))))), ?_⟩
    refine q_run (vs := [.ref q, .ref t, .ref kq]) (ea_cons (ev_var rfl) (ea_cons (ev_var rfl) (ea_cons (ev_var rfl) ea_nil))) fun H1 e1 => ⟨G, q, k, d, t, kq, n, l0, _, ks, o, rfl, W.ex e1, e1 _ _ ht, e1 _ _ hkq, hL, fun ho H2 e2 => ?_, fun v ho a H2 e2 h2 => ?_⟩
    · refine q_when (b := true) (et_is (et_test (ev_op (ev_var rfl) ev_c rv_isN)) (decide_eq_true rfl)) (fun _ H3 e3 => ?_) (fun h => by cases h)
      exact s_retU (eu_tup (ea_cons (ev_var rfl) (ea_cons ev_c ea_nil)) (Nat.le_of_ble_eq_true rfl)) fun u H4 hu e4 h4 => qN ho u H4 (((e1.trans e2).trans e3).trans e4) h4
    · obtain ⟨d1, d', n1, n', b1, b', l', hT, hW, qq⟩ := qV v ho
      refine q_when (b := false) (et_is (et_test (ev_op (ev_var rfl) ev_c rv_isN)) (decide_eq_false fun z => by cases z)) (fun h => by cases h) (fun _ H3 e3 => ?_)
      have e13 := (e1.trans e2).trans e3
      refine r_nestT (v1 := .ref q) (vs := [.ref q, .ref t, .ref kq]) (ev_var rfl) (fun B b => ea_cons (ev_var rfl) (ea_cons (ev_var rfl) (ea_cons (ev_var rfl) ea_nil))) fun H4 e4 => ⟨G, q, k, d, t, kq, n, b, ks, d1, n1, b1, rfl, W.ex (e13.trans e4), (e13.trans e4) _ _ ht, (e13.trans e4) _ _ hkq, hT, fun G1 H5 v5 S5 F5 T5 R5 => ?_⟩
      obtain ⟨t5, rfl, ht5⟩ := R5
      have e14 := e13.trans e4
      have ft5 := ft_of (W.ex e14).st F5
      have W5 := (W.ex e14).ch ft5 T5 hT.r
      have ha5 := ft5.t ((e3.trans e4) _ _ h2)
      refine ⟨G1, q, k, d1, t5, n1, b1, l', d', n', b', rfl, W5, ht5, hW, fun G2 H6 v6 S6 F6 T6 R6 => ?_⟩
      obtain ⟨t6, rfl, ht6⟩ := R6
      have ft6 := ft_of W5.st F6
      refine ⟨.ref a, rfl, by show 2 ≤ sizeLine; decide, fun p hp => ?_⟩
      have e7 := Ex.new (o := .tup [.ref t6, .ref a]) hp
      exact qq G2 _ (.ref p) (St.go ((St.pre e14 S5).trans S6) e7) (Fm.go ((Fm.pre e14 F5).trans F6) e7) (T6.ex e7) ⟨p, t6, a, rfl, upd_same, e7 _ _ ht6, e7 _ _ (ft6.t ha5)⟩
end

end NR

set_option Elab.async false
set_option linter.all false
set_option maxRecDepth 100000
set_option maxHeartbeats 4000000
namespace NR
open PySem PySem.Spec PyProof.Rows L2 Evl LK LT LG LS LQ LX LO LP LV StX SL
open ND (DK Dk St)
open NS (fr cv hv headV)
open NT (Cc Sk Sd ST Fm cont newB fre setM dropD TxT TxH tno)
open NN (R Rows asc most ptr Wf ptrs cntLt cntLe)
/-! ### keys are in a strict total order -/
def klt (a b : List Int) : Prop := HT.lexLt a b = true
theorem klt_cons {x y : Int} {a b : List Int} : klt (x :: a) (y :: b) ↔ x < y ∨ (x = y ∧ klt a b) := by
  unfold klt
  rw [HT.lexLt_cons]
  by_cases h : x = y
  · rw [if_pos h]
    exact ⟨fun z => .inr ⟨h, z⟩, fun z => z.elim (fun w => by omega) (·.2)⟩
  · rw [if_neg h, decide_eq_true_eq]
    exact ⟨.inl, fun z => z.elim id (fun w => absurd w.1 h)⟩
theorem klt_irr : ∀ a : List Int, ¬ klt a a
  | [] => by unfold klt; simp [HT.lexLt]
  | x :: a => fun h => by
    rcases klt_cons.mp h with h | ⟨_, h⟩
    · omega
    · exact klt_irr a h
theorem klt_trans : ∀ {a b c : List Int}, klt a b → klt b c → klt a c
  | [], [], _, h, _ => by unfold klt at h; simp [HT.lexLt] at h
  | [], _ :: _, [], _, h => by unfold klt at h; simp [HT.lexLt] at h
  | [], _ :: _, _ :: _, _, _ => by unfold klt; simp [HT.lexLt]
  | _ :: _, [], _, h, _ => by unfold klt at h; simp [HT.lexLt] at h
  | _ :: _, _ :: _, [], _, h => by unfold klt at h; simp [HT.lexLt] at h
  | x :: a, y :: b, z :: c, h1, h2 => by
    rw [klt_cons] at h1 h2 ⊢
    rcases h1 with h1 | ⟨e1, h1⟩
    · rcases h2 with h2 | ⟨e2, _⟩
      · exact .inl (by omega)
      · exact .inl (by omega)
    · rcases h2 with h2 | ⟨e2, h2⟩
      · exact .inl (by omega)
      · exact .inr ⟨by omega, klt_trans h1 h2⟩
theorem klt_tri : ∀ a b : List Int, klt a b ∨ a = b ∨ klt b a
  | [], [] => .inr (.inl rfl)
  | [], _ :: _ => .inl (by unfold klt; simp [HT.lexLt])
  | _ :: _, [] => .inr (.inr (by unfold klt; simp [HT.lexLt]))
  | x :: a, y :: b => by
    rw [klt_cons, klt_cons]
    rcases klt_tri a b with h | h | h
    · rcases (by omega : x < y ∨ x = y ∨ y < x) with g | g | g
      · exact .inl (.inl g)
      · exact .inl (.inr ⟨g, h⟩)
      · exact .inr (.inr (.inl g))
    · rcases (by omega : x < y ∨ x = y ∨ y < x) with g | g | g
      · exact .inl (.inl g)
      · exact .inr (.inl (by rw [g, h]))
      · exact .inr (.inr (.inl g))
    · rcases (by omega : x < y ∨ x = y ∨ y < x) with g | g | g
      · exact .inl (.inl g)
      · exact .inr (.inr (.inr ⟨g.symm, h⟩))
      · exact .inr (.inr (.inl g))
theorem klt_asy {a b : List Int} (h : klt a b) : ¬ klt b a := fun g => klt_irr a (klt_trans h g)
theorem klt_ne {a b : List Int} (h : klt a b) : a ≠ b := fun e => klt_irr a (by rw [← e] at h; exact h)
theorem nlt_trans {a b c : List Int} (h : ¬ klt b a) (g : ¬ klt c b) : ¬ klt c a := fun z => by
  rcases klt_tri a b with x | x | x
  · exact g (klt_trans z x)
  · rw [x] at z
    exact g z
  · exact h x
theorem le3 {a b : List Int} (ha : a.length = 3) (hb : b.length = 3) : leV a b = !HT.lexLt b a := by
  match a, b, ha, hb with
  | [a0, a1, a2], [b0, b1, b2], _, _ =>
    have e : leV [a0, a1, a2] [b0, b1, b2] = if a0 = b0 then (if a1 = b1 then (if a2 = b2 then true else decide (a2 ≤ b2)) else decide (a1 ≤ b1)) else decide (a0 ≤ b0) := by
      simp [leV, Ob.lexAt]
    rw [e, HT.lexLt_cons, HT.lexLt_cons, HT.lexLt_cons, HT.lexLt_nil_nil]
    by_cases h0 : a0 = b0
    · rw [if_pos h0, if_pos h0.symm]
      by_cases h1 : a1 = b1
      · rw [if_pos h1, if_pos h1.symm]
        by_cases h2 : a2 = b2
        · rw [if_pos h2, if_pos h2.symm]
          rfl
        · rw [if_neg h2, if_neg fun z => h2 z.symm, Bool.eq_iff_iff]
          simp
      · rw [if_neg h1, if_neg fun z => h1 z.symm, Bool.eq_iff_iff]
        simp
    · rw [if_neg h0, if_neg fun z => h0 z.symm, Bool.eq_iff_iff]
      simp
/-! ### rows in order -/
abbrev kk (r : R) : List Int := r.1
def Asc (rs : List R) : Prop := rs.Pairwise fun a b => klt a.1 b.1
theorem Asc.tail {r : R} {rs : List R} (h : Asc (r :: rs)) : Asc rs := (List.pairwise_cons.mp h).2
theorem Asc.sub {rs ss : List R} (h : Asc rs) (s : ss.Sublist rs) : Asc ss := List.Pairwise.sublist s h
theorem asc_of {rs : List R} (h : Asc rs) : asc rs = true := by
  unfold NN.asc LG.allF
  rw [List.all_eq_true]
  intro i hi
  have hi := List.mem_range.mp hi
  have h1 : i < rs.length := by omega
  have h2 : i + 1 < rs.length := by omega
  unfold NN.key
  rw [List.getD_eq_getElem?_getD, List.getD_eq_getElem?_getD, List.getElem?_eq_getElem h1, List.getElem?_eq_getElem h2]
  exact List.pairwise_iff_getElem.mp h i (i + 1) h1 h2 (by omega)
theorem cnt_filter (rs : List R) (f : List Int → Bool) : ((List.range rs.length).filter fun i => f (rs.getD i ([], [])).1).length = (rs.filter fun r => f r.1).length := by
  have e : rs = (List.range rs.length).map fun i => rs.getD i ([], []) := by
    apply List.ext_getElem
    · simp
    · intro i h1 h2
      simp [List.getD_eq_getElem?_getD, List.getElem?_eq_getElem h1]
  have e2 : (rs.filter fun r => f r.1) = (((List.range rs.length).map fun i => rs.getD i ([], [])).filter fun r => f r.1) := by rw [← e]
  rw [e2, List.filter_map, List.length_map]
  rfl
theorem cntLt_eq (rs : List R) (ks : List Int) : cntLt rs ks = (rs.filter fun r => HT.lexLt r.1 ks).length := cnt_filter rs fun x => HT.lexLt x ks
theorem cntLe_eq (rs : List R) (ks : List Int) : cntLe rs ks = (rs.filter fun r => leV r.1 ks).length := cnt_filter rs fun x => leV x ks
/-- where a key is or would be -/
theorem split_at (ks : List Int) : ∀ {rs : List R}, Asc rs → ∃ A B, rs = A ++ B ∧ (∀ r ∈ A, klt r.1 ks) ∧ ∀ r ∈ B, ¬ klt r.1 ks
  | [], _ => ⟨[], [], rfl, fun r h => (by cases h), fun r h => (by cases h)⟩
  | r :: rs, h => by
    by_cases hr : klt r.1 ks
    · obtain ⟨A, B, e, h1, h2⟩ := split_at ks h.tail
      exact ⟨r :: A, B, by rw [e]; rfl, fun x hx => (List.mem_cons.mp hx).elim (fun z => z ▸ hr) (h1 x), h2⟩
    · exact ⟨[], r :: rs, rfl, fun r h => (by cases h), fun x hx => (List.mem_cons.mp hx).elim (fun z => z ▸ hr) (fun z => nlt_trans hr (klt_asy ((List.pairwise_cons.mp h).1 x z)))⟩
theorem cntLt_split {A B : List R} {ks : List Int} (h1 : ∀ r ∈ A, klt r.1 ks) (h2 : ∀ r ∈ B, ¬ klt r.1 ks) : cntLt (A ++ B) ks = A.length := by
  rw [cntLt_eq, List.filter_append, List.filter_eq_self.mpr fun r hr => h1 r hr, List.filter_eq_nil_iff.mpr fun r hr z => h2 r hr z, List.append_nil]
theorem hasKey_split {A B : List R} {ks : List Int} : hasKey (A ++ B) A.length ks = true ↔ ∃ v C, B = (ks, v) :: C := by
  unfold hasKey NN.key
  rw [Bool.and_eq_true_iff, decide_eq_true_eq, decide_eq_true_eq, List.getD_eq_getElem?_getD, List.getElem?_append_right (Nat.le_refl _), Nat.sub_self, List.length_append]
  cases B with
  | nil => simp
  | cons r C =>
    obtain ⟨x, v⟩ := r
    simp only [List.getElem?_cons_zero, Option.getD_some, List.length_cons]
    exact ⟨fun h => ⟨v, C, by rw [h.2]⟩, fun ⟨v', C', e⟩ => ⟨by omega, by cases e; rfl⟩⟩
/-- a table with one more row; without one -/
def ins (rs : List R) (ks vs : List Int) : List R := (rs.filter fun r => HT.lexLt r.1 ks) ++ (ks, vs) :: rs.filter fun r => HT.lexLt ks r.1
def del (rs : List R) (ks : List Int) : List R := rs.filter fun r => !decide (r.1 = ks)
def get (rs : List R) (ks : List Int) : Option (List Int) := (rs.find? fun r => decide (r.1 = ks)).map (·.2)
theorem nlt_gt {r : R} {ks : List Int} (h : ¬ klt r.1 ks) (h2 : r.1 ≠ ks) : klt ks r.1 := by
  rcases klt_tri r.1 ks with x | x | x
  · exact absurd x h
  · exact absurd x h2
  · exact x
theorem filter_all {rs : List R} {f : R → Bool} (h : ∀ r ∈ rs, f r = true) : rs.filter f = rs := List.filter_eq_self.mpr h
theorem filter_no {rs : List R} {f : R → Bool} (h : ∀ r ∈ rs, f r = false) : rs.filter f = [] := List.filter_eq_nil_iff.mpr fun r hr z => by rw [h r hr] at z; cases z
theorem klt_f {a b : List Int} (h : ¬ klt a b) : HT.lexLt a b = false := by
  cases e : HT.lexLt a b with
  | false => rfl
  | true => exact absurd e h
theorem ins_mid {X Y Z : List R} {ks vs : List Int} (hx : ∀ r ∈ X, klt r.1 ks) (hz : ∀ r ∈ Z, klt ks r.1) : ins (X ++ Y ++ Z) ks vs = X ++ ins Y ks vs ++ Z := by
  unfold ins
  rw [List.filter_append, List.filter_append, List.filter_append, List.filter_append, filter_all hx, filter_no (rs := Z) (f := fun r => HT.lexLt r.1 ks) (fun r hr => klt_f (klt_asy (hz r hr))), filter_no (rs := X) (f := fun r => HT.lexLt ks r.1) (fun r hr => klt_f (klt_asy (hx r hr))), filter_all hz]
  simp
theorem del_mid {X Y Z : List R} {ks : List Int} (hx : ∀ r ∈ X, klt r.1 ks) (hz : ∀ r ∈ Z, klt ks r.1) : del (X ++ Y ++ Z) ks = X ++ del Y ks ++ Z := by
  unfold del
  rw [List.filter_append, List.filter_append, filter_all (rs := X) (fun r hr => by simp [klt_ne (hx r hr)]), filter_all (rs := Z) (fun r hr => by simp [(klt_ne (hz r hr)).symm])]
theorem get_mid {X Y Z : List R} {ks : List Int} (hx : ∀ r ∈ X, klt r.1 ks) (hz : ∀ r ∈ Z, klt ks r.1) : get (X ++ Y ++ Z) ks = get Y ks := by
  unfold get
  have h1 : X.find? (fun r => decide (r.1 = ks)) = none := List.find?_eq_none.mpr fun r hr => by simp [klt_ne (hx r hr)]
  have h2 : Z.find? (fun r => decide (r.1 = ks)) = none := List.find?_eq_none.mpr fun r hr => by simp [(klt_ne (hz r hr)).symm]
  rw [List.find?_append, List.find?_append, h1, h2]
  simp
theorem ins_split {A B : List R} {ks vs : List Int} (h1 : ∀ r ∈ A, klt r.1 ks) (h2 : ∀ r ∈ B, ¬ klt r.1 ks) (hB : Asc B) : insL (A ++ B) ks vs = ins (A ++ B) ks vs := by
  unfold insL
  rw [cntLt_split h1 h2, List.take_left]
  have hg : ∀ {C : List R}, (∀ r ∈ C, klt ks r.1) → ins (A ++ C) ks vs = A ++ (ks, vs) :: C := fun {C} h => by
    have := ins_mid (X := A) (Y := []) (Z := C) (vs := vs) h1 h
    rw [List.append_nil] at this
    rw [this]
    show A ++ [(ks, vs)] ++ C = _
    simp
  by_cases hk : hasKey (A ++ B) A.length ks = true
  · rw [if_pos hk]
    obtain ⟨v, C, rfl⟩ := hasKey_split.mp hk
    have hC : ∀ r ∈ C, klt ks r.1 := fun r hr => (List.pairwise_cons.mp hB).1 r hr
    have e : (A ++ (ks, v) :: C).drop (A.length + 1) = C := by
      rw [List.drop_append]
      simp
    rw [e]
    have := ins_mid (X := A) (Y := [(ks, v)]) (Z := C) (vs := vs) h1 hC
    rw [show A ++ [(ks, v)] ++ C = A ++ (ks, v) :: C by simp] at this
    rw [this]
    unfold ins
    simp [klt_f (klt_irr ks)]
  · rw [if_neg hk, List.drop_left]
    have hB2 : ∀ r ∈ B, klt ks r.1 := by
      cases B with
      | nil => exact fun r h => by cases h
      | cons r0 C =>
        have h0 : r0.1 ≠ ks := fun e => hk (hasKey_split.mpr ⟨r0.2, C, by rw [← e]⟩)
        have g0 := nlt_gt (h2 r0 List.mem_cons_self) h0
        exact fun r hr => (List.mem_cons.mp hr).elim (fun z => z ▸ g0) fun z => klt_trans g0 ((List.pairwise_cons.mp hB).1 r z)
    rw [hg hB2]
    simp
theorem get_split {A B : List R} {ks : List Int} (h1 : ∀ r ∈ A, klt r.1 ks) (h2 : ∀ r ∈ B, ¬ klt r.1 ks) (hB : Asc B) : get (A ++ B) ks = if hasKey (A ++ B) A.length ks then some ((A ++ B).getD A.length ([], [])).2 else none := by
  have e1 : get (A ++ B) ks = get B ks := by
    unfold get
    rw [List.find?_append, List.find?_eq_none.mpr fun r hr => by simp [klt_ne (h1 r hr)]]
    rfl
  rw [e1, List.getD_eq_getElem?_getD, List.getElem?_append_right (Nat.le_refl _), Nat.sub_self]
  by_cases hk : hasKey (A ++ B) A.length ks = true
  · rw [if_pos hk]
    obtain ⟨v, C, rfl⟩ := hasKey_split.mp hk
    simp [get]
  · rw [if_neg hk]
    unfold get
    rw [List.find?_eq_none.mpr]
    · rfl
    · intro r hr
      cases B with
      | nil => cases hr
      | cons r0 C =>
        have h0 : r0.1 ≠ ks := fun e => hk (hasKey_split.mpr ⟨r0.2, C, by rw [← e]⟩)
        have g0 := nlt_gt (h2 r0 List.mem_cons_self) h0
        rcases List.mem_cons.mp hr with rfl | z
        · simp [h0]
        · simp [(klt_ne (klt_trans g0 ((List.pairwise_cons.mp hB).1 r z))).symm]
theorem del_split {A C : List R} {ks v : List Int} (h1 : ∀ r ∈ A, klt r.1 ks) (hC : ∀ r ∈ C, klt ks r.1) : del (A ++ (ks, v) :: C) ks = A ++ C := by
  have := del_mid (X := A) (Y := [(ks, v)]) (Z := C) h1 hC
  rw [show A ++ [(ks, v)] ++ C = A ++ (ks, v) :: C by simp] at this
  rw [this]
  unfold del
  simp

end NR

set_option Elab.async false
set_option linter.all false
set_option maxRecDepth 100000
set_option maxHeartbeats 4000000
namespace NR
open PySem PySem.Spec PyProof.Rows L2 Evl LK LT LG LS LQ LX LO LP LV StX SL
open ND (DK Dk St)
open NS (fr cv hv headV)
open NT (Cc Sk Sd ST Fm cont newB fre setM dropD TxT TxH tno)
open NN (R Rows asc most ptr Wf ptrs cntLt cntLe)
/-! ### what one change does to the blocks that are one's own -/
structure OwnB (k : Sk) (d : Sd) (B : List Nat) : Prop where
  nd : B.Nodup
  ok : ∀ x ∈ B, 5 ≤ x ∧ x < k.n ∧ cv d.cs x = 1 ∧ hv k.hs x = false
structure Sok (k : Sk) (d : Sd) : Prop where
  lc : d.cs.length = k.n
  lh : k.hs.length = k.n
  n1 : k.n ≤ 256
  mi : ∀ x, cv d.cs x = 0 → d.mem x = none
  g0 : 0 ≤ k.g
  low : ∀ x, x < 5 → cv d.cs x ≠ 0
structure Chg (k : Sk) (d d' : Sd) (B B' : List Nat) : Prop where
  r : d'.r = d.r
  ok : Sok k d'
  own : OwnB k d' B'
  out : ∀ x, x ∉ B → x ∉ B' → d'.mem x = d.mem x ∧ cv d'.cs x = cv d.cs x
  new : ∀ x, x ∈ B' → x ∉ B → cv d.cs x = 0 ∧ hv k.hs x = false
  old : ∀ x, x ∈ B → x ∉ B' → cv d'.cs x = 0
  fre : fre k d' + B'.length = fre k d + B.length
section
variable {k : Sk} {d d' d1 d2 : Sd} {B B' B1 B2 C : List Nat} {n : Nat}
theorem OwnB.newB (h : OwnB k d B) {x : Nat} (hx : x ∈ B) : newB k d x = true := by
  obtain ⟨_, _, h1, h2⟩ := h.ok x hx
  unfold NT.newB
  rw [h1, h2]
  rfl
theorem OwnB.perm (h : OwnB k d B) (p : B.Perm B') : OwnB k d B' := ⟨p.nodup_iff.mp h.nd, fun x hx => h.ok x (p.mem_iff.mpr hx)⟩
theorem OwnB.left (h : OwnB k d (B ++ C)) : OwnB k d B := ⟨(List.nodup_append.mp h.nd).1, fun x hx => h.ok x (List.mem_append_left _ hx)⟩
theorem OwnB.right (h : OwnB k d (B ++ C)) : OwnB k d C := ⟨(List.nodup_append.mp h.nd).2.1, fun x hx => h.ok x (List.mem_append_right _ hx)⟩
theorem Chg.refl (ok : Sok k d) (h : OwnB k d B) : Chg k d d B B := ⟨rfl, ok, h, fun _ _ _ => ⟨rfl, rfl⟩, fun x h1 h2 => absurd h1 h2, fun x h1 h2 => absurd h1 h2, rfl⟩
theorem Chg.trans (s : Sok k d) (h1 : Chg k d d1 B B1) (h2 : Chg k d1 d2 B1 B2) (hB : OwnB k d B) : Chg k d d2 B B2 := by
  refine ⟨by rw [h2.r, h1.r], h2.ok, h2.own, fun x hb hb2 => ?_, fun x hx hb => ?_, fun x hx hb2 => ?_, by have := h1.fre; have := h2.fre; omega⟩
  · by_cases h : x ∈ B1
    · have a := h1.new x h hb
      have b := h2.old x h hb2
      rw [h2.ok.mi x b, s.mi x a.1, b, a.1]
      exact ⟨rfl, rfl⟩
    · have a := h1.out x hb h
      have b := h2.out x h hb2
      rw [b.1, a.1, b.2, a.2]
      exact ⟨rfl, rfl⟩
  · by_cases h : x ∈ B1
    · exact h1.new x h hb
    · have a := h2.new x hx h
      rw [(h1.out x hb h).2] at a
      exact a
  · by_cases h : x ∈ B1
    · exact h2.old x h hb2
    · rw [(h2.out x h hb2).2]
      exact h1.old x hx h
/-- with other blocks of one's own beside -/
theorem Chg.frame (h : Chg k d d' B B') (o : OwnB k d (B ++ C)) : Chg k d d' (B ++ C) (B' ++ C) := by
  have dis : ∀ x ∈ B', x ∉ C := fun x hx hc => by
    by_cases hb : x ∈ B
    · exact (List.nodup_append.mp o.nd).2.2 x hb x hc rfl
    · have a := (h.new x hx hb).1
      have b := (o.ok x (List.mem_append_right _ hc)).2.2.1
      omega
  have disB : ∀ x ∈ C, x ∉ B := fun x hc hb => (List.nodup_append.mp o.nd).2.2 x hb x hc rfl
  refine ⟨h.r, h.ok, ⟨List.nodup_append.mpr ⟨h.own.nd, (List.nodup_append.mp o.nd).2.1, fun a ha b hb e => dis a ha (e ▸ hb)⟩, fun x hx => ?_⟩, fun x h1 h2 => ?_, fun x h1 h2 => ?_, fun x h1 h2 => ?_, by have := h.fre; rw [List.length_append, List.length_append]; omega⟩
  · rcases List.mem_append.mp hx with hx | hx
    · exact h.own.ok x hx
    · obtain ⟨a, b, c, e⟩ := o.ok x (List.mem_append_right _ hx)
      refine ⟨a, b, ?_, e⟩
      rw [(h.out x (disB x hx) (fun z => dis x z hx)).2]
      exact c
  · exact h.out x (fun z => h1 (List.mem_append_left _ z)) (fun z => h2 (List.mem_append_left _ z))
  · have h2' : x ∉ B := fun z => h2 (List.mem_append_left _ z)
    rcases List.mem_append.mp h1 with h1 | h1
    · exact h.new x h1 h2'
    · exact absurd (List.mem_append_right _ h1) h2
  · have h2' : x ∉ B' := fun z => h2 (List.mem_append_left _ z)
    rcases List.mem_append.mp h1 with h1 | h1
    · exact h.old x h1 h2'
    · exact absurd (List.mem_append_right _ h1) h2
theorem Chg.perm (h : Chg k d d' B B') (p : B.Perm B1) (p' : B'.Perm B2) : Chg k d d' B1 B2 :=
  ⟨h.r, h.ok, h.own.perm p', fun x a b => h.out x (fun z => a (p.mem_iff.mp z)) (fun z => b (p'.mem_iff.mp z)), fun x a b => h.new x (p'.mem_iff.mpr a) (fun z => b (p.mem_iff.mp z)), fun x a b => h.old x (p.mem_iff.mpr a) (fun z => b (p'.mem_iff.mp z)), by have := h.fre; rw [← p.length_eq, ← p'.length_eq]; exact this⟩
/-- the siblings' content stays -/
theorem Chg.stay (h : Chg k d d' B B') (o : OwnB k d (B ++ C)) {x : Nat} (hx : x ∈ C) : d'.mem x = d.mem x := by
  have hb : x ∉ B := fun z => (List.nodup_append.mp o.nd).2.2 x z x hx rfl
  refine (h.out x hb fun z => ?_).1
  have a := (h.new x z hb).1
  have b := (o.ok x (List.mem_append_right _ hx)).2.2.1
  omega
theorem chg_wr (ok : Sok k d) (o : OwnB k d [n]) {kd b : Int} {rs : List R} (hw : Wn kd rs) (hb : 0 ≤ b) : ∃ d', Wr k d kd rs n b d' ∧ Chg k d d' [n] [n] ∧ d'.mem n = some (NN.blk kd rs (n : Int) b) := by
  obtain ⟨a1, a2, a3, a4⟩ := o.ok n List.mem_cons_self
  refine ⟨_, ⟨hw, hb, a2, o.newB List.mem_cons_self, rfl⟩, ⟨rfl, ⟨ok.lc, ok.lh, ok.n1, fun x hx => ?_, ok.g0, ok.low⟩, ⟨o.nd, o.ok⟩, fun x h1 _ => ⟨?_, rfl⟩, fun x a b => absurd a b, fun x a b => absurd a b, rfl⟩, ?_⟩
  · show setM d.mem n _ x = none
    unfold NT.setM
    rw [if_neg fun z => by rw [z, a3] at hx; cases hx]
    exact ok.mi x hx
  · show setM d.mem n _ x = d.mem x
    unfold NT.setM
    rw [if_neg fun z => h1 (by rw [z]; exact List.mem_cons_self)]
  · show setM d.mem n _ n = _
    unfold NT.setM
    rw [if_pos rfl]
theorem cv_set' {cs : List Int} {i : Nat} {v : Int} (hi : i < cs.length) (x : Nat) : cv (cs.set i v) x = if x = i then v else cv cs x := by
  unfold NS.cv
  rw [List.getD_eq_getElem?_getD, List.getD_eq_getElem?_getD, List.getElem?_set]
  by_cases e : i = x
  · rw [if_pos e, if_pos hi, if_pos e.symm]
    rfl
  · rw [if_neg e, if_neg (fun z => e z.symm)]
/-- how many blocks are free, when one changes -/
theorem cnt_one {N i : Nat} {f g : Nat → Bool} (hi : i < N) (h : ∀ x, x ≠ i → f x = g x) (hf : f i = false) (hg : g i = true) : ((List.range N).filter f).length + 1 = ((List.range N).filter g).length := by
  induction N with
  | zero => omega
  | succ N ih =>
    rw [List.range_succ, List.filter_append, List.filter_append, List.length_append, List.length_append]
    by_cases e : i = N
    · subst e
      have : (List.range i).filter f = (List.range i).filter g := List.filter_congr fun x hx => h x (by have := List.mem_range.mp hx; omega)
      rw [this]
      simp [hf, hg]
    · have := ih (by omega)
      have e2 : f N = g N := h N (by omega)
      have e3 : ([N].filter f).length = ([N].filter g).length := by simp [List.filter_cons, e2]
      omega
theorem fr1_set {cs : List Int} {hs : List Bool} {i x : Nat} {v : Int} (hi : i < cs.length) (h : x ≠ i) : NS.fr1 (cs.set i v) hs false x = NS.fr1 cs hs false x := by
  unfold NS.fr1
  rw [cv_set' hi, if_neg h]
theorem chg_mk (ok : Sok k d) (hr0 : 0 ≤ d.r) {kd : Int} {rs : List R} (hw : Wn kd rs) (hlt : d.r < fre k d) : ∃ d' n, Mk k d kd rs d' n ∧ Chg k d d' [] [n] ∧ d'.mem n = some (NN.blk kd rs (n : Int) (k.g + 1)) := by
  have h0 : 0 < (fr d.cs k.hs false).length := by unfold NT.fre at hlt; omega
  obtain ⟨i, hv', hi, hg⟩ := NS.head_of (cs := d.cs) (hs := k.hs) (b := false) h0
  have hm := List.mem_of_getElem? hg
  have h2 := (List.mem_filter.mp hm).2
  unfold NS.fr1 at h2
  obtain ⟨a, b⟩ := Bool.and_eq_true_iff.mp h2
  have hc0 : cv d.cs i = 0 := V.int.inj (of_decide_eq_true a)
  have hh0 : hv k.hs i = false := V.bl.inj (of_decide_eq_true b)
  have h5 : 5 ≤ i := by
    by_cases h : i < 5
    · exact absurd hc0 (ok.low i h)
    · omega
  have hn : i < k.n := by rw [← ok.lc]; exact hi
  have cvs : ∀ x, cv (d.cs.set i 1) x = if x = i then 1 else cv d.cs x := cv_set' hi
  refine ⟨_, i, ⟨hw, hlt, hv', hn, rfl⟩, ⟨rfl, ⟨by show (d.cs.set i 1).length = k.n; rw [List.length_set]; exact ok.lc, ok.lh, ok.n1, fun x hx => ?_, ok.g0, fun x hx => ?_⟩, ⟨by simp, fun x hx => ?_⟩, fun x _ h2 => ⟨?_, ?_⟩, fun x hx _ => ?_, fun x hx => (by cases hx), ?_⟩, ?_⟩
  · have hx : cv (d.cs.set i 1) x = 0 := hx
    rw [cvs] at hx
    show setM d.mem i _ x = none
    unfold NT.setM
    by_cases e : x = i
    · rw [if_pos e] at hx
      cases hx
    · rw [if_neg e] at hx ⊢
      exact ok.mi x hx
  · show cv (d.cs.set i 1) x ≠ 0
    rw [cvs, if_neg (by omega)]
    exact ok.low x hx
  · rw [List.mem_singleton.mp hx]
    exact ⟨h5, hn, by show cv (d.cs.set i 1) i = 1; rw [cvs, if_pos rfl], hh0⟩
  · show setM d.mem i _ x = d.mem x
    unfold NT.setM
    rw [if_neg fun z => h2 (by rw [z]; exact List.mem_cons_self)]
  · show cv (d.cs.set i 1) x = cv d.cs x
    rw [cvs, if_neg fun z => h2 (by rw [z]; exact List.mem_cons_self)]
  · rw [List.mem_singleton.mp hx]
    exact ⟨hc0, hh0⟩
  · show ((fr (d.cs.set i 1) k.hs false).length : Int) + 1 = ((fr d.cs k.hs false).length : Int) + 0
    have := cnt_one (N := d.cs.length) (i := i) (f := NS.fr1 (d.cs.set i 1) k.hs false) (g := NS.fr1 d.cs k.hs false) hi (fun x hx => fr1_set hi hx) (by
      unfold NS.fr1
      rw [cvs, if_pos rfl]
      rfl) h2
    unfold NS.fr
    rw [List.length_set]
    omega
  · show setM d.mem i _ i = _
    unfold NT.setM
    rw [if_pos rfl]
theorem chg_drop (ok : Sok k d) (o : OwnB k d [n]) : Chg k d (dropD d n) [n] [] := by
  obtain ⟨a1, a2, a3, a4⟩ := o.ok n List.mem_cons_self
  have hl : n < d.cs.length := by rw [ok.lc]; exact a2
  have cvs : ∀ x, cv (d.cs.set n (cv d.cs n + -1)) x = if x = n then 0 else cv d.cs x := fun x => by
    rw [cv_set' hl, a3]
    rfl
  have hmem : (dropD d n).mem = setM d.mem n none := by
    show (if cv d.cs n - 1 = 0 then setM d.mem n none else d.mem) = _
    rw [if_pos (by rw [a3]; rfl)]
  refine ⟨rfl, ⟨by show (d.cs.set n _).length = k.n; rw [List.length_set]; exact ok.lc, ok.lh, ok.n1, fun x hx => ?_, ok.g0, fun x hx => ?_⟩, ⟨List.nodup_nil, fun x hx => (by cases hx)⟩, fun x h1 _ => ⟨?_, ?_⟩, fun x hx => (by cases hx), fun x hx _ => ?_, ?_⟩
  · rw [hmem]
    have hx : cv (d.cs.set n (cv d.cs n + -1)) x = 0 := hx
    rw [cvs] at hx
    unfold NT.setM
    by_cases e : x = n
    · rw [if_pos e]
    · rw [if_neg e] at hx ⊢
      exact ok.mi x hx
  · show cv (d.cs.set n (cv d.cs n + -1)) x ≠ 0
    rw [cvs, if_neg (by omega)]
    exact ok.low x hx
  · rw [hmem]
    unfold NT.setM
    rw [if_neg fun z => h1 (by rw [z]; exact List.mem_cons_self)]
  · show cv (d.cs.set n (cv d.cs n + -1)) x = cv d.cs x
    rw [cvs, if_neg fun z => h1 (by rw [z]; exact List.mem_cons_self)]
  · rw [List.mem_singleton.mp hx]
    show cv (d.cs.set n (cv d.cs n + -1)) n = 0
    rw [cvs, if_pos rfl]
  · show ((fr (d.cs.set n (cv d.cs n + -1)) k.hs false).length : Int) + 0 = ((fr d.cs k.hs false).length : Int) + 1
    have := cnt_one (N := d.cs.length) (i := n) (f := NS.fr1 d.cs k.hs false) (g := NS.fr1 (d.cs.set n (cv d.cs n + -1)) k.hs false) hl (fun x hx => (fr1_set hl hx).symm) (by
      unfold NS.fr1
      rw [a3]
      rfl) (by
      unfold NS.fr1
      rw [cvs, if_pos rfl, a4]
      rfl)
    unfold NS.fr
    rw [List.length_set]
    omega
end

end NR

set_option Elab.async false
set_option linter.all false
set_option maxRecDepth 100000
set_option maxHeartbeats 4000000
namespace NR
open PySem PySem.Spec PyProof.Rows L2 Evl LK LT LG LS LQ LX LO LP LV StX SL
open ND (DK Dk St)
open NS (fr cv hv headV)
open NT (Cc Sk Sd ST Fm cont newB fre setM dropD TxT TxH tno)
open NN (R Rows asc most ptr Wf ptrs cntLt cntLe)
/-! ### trees in Lean -/
@[reducible] def El : Nat → Type
  | 0 => R
  | h + 1 => Nat × List (El h)
def its : (h : Nat) → El h → List R
  | 0, r => [r]
  | h + 1, t => t.2.flatMap (its h)
def lnk (g : Int) : (h : Nat) → El h → R
  | 0, r => r
  | h + 1, t => (k0 (t.2.map (lnk g h)), [(t.1 : Int), g])
def bks : (h : Nat) → El h → List Nat
  | 0, _ => []
  | h + 1, t => t.1 :: t.2.flatMap (bks h)
def kdh (h : Nat) : Int := if h = 0 then 1 else 2
def Hd (k : Sk) (d : Sd) : (h : Nat) → El h → Prop
  | 0, _ => True
  | h + 1, t => d.mem t.1 = some (NN.blk (kdh h) (t.2.map (lnk (k.g + 1) h)) (t.1 : Int) (k.g + 1)) ∧ ∀ e ∈ t.2, Hd k d h e
def Ro (r : R) : Prop := r.1.length = 3 ∧ r.2.length = 4 ∧ (∀ z ∈ r.1, 0 ≤ z) ∧ ∀ z ∈ r.2, 0 ≤ z
def Okt : (h : Nat) → El h → Prop
  | 0, r => Ro r
  | h + 1, t => 2 ≤ t.2.length ∧ (t.2.length : Int) ≤ most (kdh h) ∧ ∀ e ∈ t.2, Okt h e
theorem kd_or (h : Nat) : kdh h = 1 ∨ kdh h = 2 := by
  unfold kdh
  split
  · exact .inl rfl
  · exact .inr rfl
theorem its_head (g : Int) : ∀ (h : Nat) (e : El h), Okt h e → ∃ r rest, its h e = r :: rest ∧ r.1 = (lnk g h e).1 ∧ Ro r
  | 0, r, ok => ⟨r, [], rfl, rfl, ok⟩
  | h + 1, (b, l), ok => by
    obtain ⟨h2, _, hc⟩ := ok
    cases l with
    | nil => exact absurd h2 (by simp)
    | cons e l =>
      obtain ⟨r, rest, h1, h2, h3⟩ := its_head g h e (hc e List.mem_cons_self)
      refine ⟨r, rest ++ l.flatMap (its h), ?_, ?_, h3⟩
      · show (e :: l).flatMap (its h) = _
        rw [List.flatMap_cons, h1]
        rfl
      · rw [h2]
        rfl
theorem its_ro : ∀ (h : Nat) (e : El h), Okt h e → ∀ r ∈ its h e, Ro r
  | 0, r, ok => fun x hx => by
    rw [List.mem_singleton.mp hx]
    exact ok
  | h + 1, (b, l), ok => fun x hx => by
    obtain ⟨e, he, hx⟩ := List.mem_flatMap.mp hx
    exact its_ro h e (ok.2.2 e he) x hx
section
variable {k : Sk} {d d' : Sd} {g : Int} {h : Nat} {l : List (El h)}
theorem Hd.cong : ∀ (h : Nat) (e : El h), (∀ x ∈ bks h e, d'.mem x = d.mem x) → Hd k d h e → Hd k d' h e
  | 0, _, _, _ => trivial
  | h + 1, (b, l), hm, ⟨a, c⟩ => ⟨by rw [hm b List.mem_cons_self]; exact a, fun e he => Hd.cong h e (fun x hx => hm x (List.mem_cons_of_mem _ (List.mem_flatMap.mpr ⟨e, he, hx⟩))) (c e he)⟩
theorem asc_rows (ok : ∀ e ∈ l, Okt h e) (a : Asc (l.flatMap (its h))) : Asc (l.map (lnk g h)) := by
  unfold Asc at a ⊢
  rw [List.pairwise_flatMap] at a
  rw [List.pairwise_map]
  refine List.Pairwise.imp_of_mem (fun {x y} hx hy hxy => ?_) a.2
  obtain ⟨r, _, e1, e2, _⟩ := its_head g h x (ok x hx)
  obtain ⟨s, _, f1, f2, _⟩ := its_head g h y (ok y hy)
  have := hxy r (by rw [e1]; exact List.mem_cons_self) s (by rw [f1]; exact List.mem_cons_self)
  rw [e2, f2] at this
  exact this
theorem wf_rows (ok : ∀ e ∈ l, Okt h e) : Wf (kdh h) (l.map (lnk g h)) := fun r hr => by
  obtain ⟨e, he, rfl⟩ := List.mem_map.mp hr
  obtain ⟨r, _, _, e2, e3⟩ := its_head g h e (ok e he)
  refine ⟨by rw [← e2]; exact e3.1, ?_⟩
  cases h with
  | zero => exact (ok e he).2.1
  | succ h => rfl
theorem nn_rows (ok : ∀ e ∈ l, Okt h e) (g0 : 0 ≤ g) : Nn (l.map (lnk g h)) := fun r hr => by
  obtain ⟨e, he, rfl⟩ := List.mem_map.mp hr
  obtain ⟨r, _, _, e2, e3⟩ := its_head g h e (ok e he)
  refine ⟨by rw [← e2]; exact e3.2.2.1, ?_⟩
  cases h with
  | zero => exact (ok e he).2.2.2
  | succ h =>
    intro z hz
    have hz : z ∈ [(e.1 : Int), g] := hz
    simp only [List.mem_cons, List.not_mem_nil, or_false] at hz
    rcases hz with rfl | rfl
    · omega
    · exact g0
theorem wn_rows (hl : (l.length : Int) ≤ most (kdh h)) (ok : ∀ e ∈ l, Okt h e) (a : Asc (l.flatMap (its h))) (g0 : 0 ≤ g) : Wn (kdh h) (l.map (lnk g h)) := ⟨kd_or h, wf_rows ok, by rw [List.length_map]; exact hl, asc_of (asc_rows ok a), nn_rows ok g0⟩
theorem nd_of (s : Sok k d) {b : Nat} (o : OwnB k d (b :: l.flatMap (bks h))) (hb : d.mem b = some (NN.blk (kdh h) (l.map (lnk (k.g + 1) h)) (b : Int) (k.g + 1))) (hl : (l.length : Int) ≤ most (kdh h)) (ok : ∀ e ∈ l, Okt h e) (a : Asc (l.flatMap (its h))) : Nd k d b (kdh h) (l.map (lnk (k.g + 1) h)) := by
  obtain ⟨a1, a2, _, _⟩ := o.ok b List.mem_cons_self
  have n1 := s.n1
  have g0 := s.g0
  have w := wn_rows (g := k.g + 1) hl ok a (by omega)
  have hp : ∀ x : Nat, 5 ≤ x → x < k.n → ptr (x : Int) (k.g + 1) = true := fun x h1 h2 => by
    unfold NN.ptr
    rw [decide_eq_true (show (5 : Int) ≤ (x : Int) by omega), decide_eq_true (show (x : Int) < 256 by omega), decide_eq_true (show (1 : Int) ≤ k.g + 1 by omega)]
    rfl
  refine ⟨a1, a2, kd_or h, ⟨(b : Int), k.g + 1, ?_, hp b a1 a2⟩, w.wf, w.m, w.a, fun h2 r hr => ?_⟩
  · unfold NT.cont
    rw [hb]
  · obtain ⟨e, he, rfl⟩ := List.mem_map.mp hr
    cases h with
    | zero => exact absurd h2 (by decide)
    | succ h =>
      obtain ⟨c1, c2, _, _⟩ := o.ok e.1 (List.mem_cons_of_mem _ (List.mem_flatMap.mpr ⟨e, he, List.mem_cons_self⟩))
      exact ⟨_, _, rfl, hp e.1 c1 c2⟩
/-- the child for a key -/
theorem child_split (ok : ∀ e ∈ l, Okt h e) (a : Asc (l.flatMap (its h))) {ks : List Int} (hk : ks.length = 3) (hne : l ≠ []) : ∃ P c S, l = P ++ c :: S ∧ chI (l.map (lnk g h)) ks = P.length ∧ (∀ e ∈ S, klt ks (lnk g h e).1) ∧ (P ≠ [] → ¬ klt ks (lnk g h c).1) := by
  have hs := asc_rows (g := g) ok a
  have hcl : cntLe (l.map (lnk g h)) ks = (l.filter fun e => !HT.lexLt ks (lnk g h e).1).length := by
    rw [cntLe_eq, List.filter_map, List.length_map]
    congr 1
    refine List.filter_congr fun e he => ?_
    obtain ⟨r, _, _, e2, e3⟩ := its_head g h e (ok e he)
    show leV (lnk g h e).1 ks = _
    exact le3 (by rw [← e2]; exact e3.1) hk
  have hsp : ∀ l : List (El h), (l.map (lnk g h)).Pairwise (fun a b => klt a.1 b.1) → ∃ X Y, l = X ++ Y ∧ (∀ e ∈ X, ¬ klt ks (lnk g h e).1) ∧ ∀ e ∈ Y, klt ks (lnk g h e).1 := by
    intro l
    induction l with
    | nil => exact fun _ => ⟨[], [], rfl, fun e he => (by cases he), fun e he => (by cases he)⟩
    | cons e l ih =>
      intro hp
      rw [List.map_cons, List.pairwise_cons] at hp
      by_cases hr : klt ks (lnk g h e).1
      · exact ⟨[], e :: l, rfl, fun e he => (by cases he), fun x hx => (List.mem_cons.mp hx).elim (fun z => z ▸ hr) fun z => klt_trans hr (hp.1 _ (List.mem_map.mpr ⟨x, z, rfl⟩))⟩
      · obtain ⟨X, Y, e1, h1, h2⟩ := ih hp.2
        exact ⟨e :: X, Y, by rw [e1]; rfl, fun x hx => (List.mem_cons.mp hx).elim (fun z => z ▸ hr) (h1 x), h2⟩
  obtain ⟨X, Y, rfl, h1, h2⟩ := hsp l hs
  have hlen : cntLe ((X ++ Y).map (lnk g h)) ks = X.length := by
    rw [hcl, List.filter_append, List.filter_eq_self.mpr fun e he => by rw [klt_f (h1 e he)]; rfl, List.filter_eq_nil_iff.mpr fun e he => by
      have := h2 e he
      unfold klt at this
      rw [this]
      decide]
    rw [List.append_nil]
  unfold chI
  rw [hlen]
  by_cases hX : X = []
  · subst hX
    cases Y with
    | nil => exact absurd rfl hne
    | cons c S => exact ⟨[], c, S, rfl, rfl, fun e he => h2 e (List.mem_cons_of_mem _ he), fun z => absurd rfl z⟩
  · obtain ⟨P, c, rfl⟩ : ∃ P c, X = P ++ [c] := ⟨X.dropLast, X.getLast hX, (List.dropLast_concat_getLast hX).symm⟩
    exact ⟨P, c, Y, by simp, by simp, h2, fun _ => h1 c (by simp)⟩
/-- what stands left and right of that child -/
theorem child_lt {P S : List (El h)} {c : El h} (ok : ∀ e ∈ P ++ c :: S, Okt h e) (a : Asc ((P ++ c :: S).flatMap (its h))) {ks : List Int} (hS : ∀ e ∈ S, klt ks (lnk g h e).1) (hc : P ≠ [] → ¬ klt ks (lnk g h c).1) : (∀ r ∈ P.flatMap (its h), klt r.1 ks) ∧ ∀ r ∈ S.flatMap (its h), klt ks r.1 := by
  unfold Asc at a
  rw [List.pairwise_flatMap] at a
  refine ⟨fun r hr => ?_, fun r hr => ?_⟩
  · obtain ⟨e, he, hr⟩ := List.mem_flatMap.mp hr
    obtain ⟨s, _, f1, f2, _⟩ := its_head g h c (ok c (by simp))
    have h1 := (List.pairwise_append.mp a.2).2.2 e he c List.mem_cons_self r hr s (by rw [f1]; exact List.mem_cons_self)
    have h2 := hc (List.ne_nil_of_mem he)
    rw [← f2] at h2
    rcases klt_tri s.1 ks with x | x | x
    · exact klt_trans h1 x
    · rw [← x]
      exact h1
    · exact absurd x h2
  · obtain ⟨e, he, hr⟩ := List.mem_flatMap.mp hr
    obtain ⟨s, rest, f1, f2, _⟩ := its_head g h e (ok e (by simp [he]))
    have h1 := hS e he
    rw [← f2] at h1
    rw [f1] at hr
    rcases List.mem_cons.mp hr with rfl | hr
    · exact h1
    · have h3 := a.1 e (by simp [he])
      rw [f1, List.pairwise_cons] at h3
      exact klt_trans h1 (h3.1 r hr)
end

end NR

set_option Elab.async false
set_option linter.all false
set_option maxRecDepth 100000
set_option maxHeartbeats 4000000
namespace NR
open PySem PySem.Spec PyProof.Rows L2 Evl LK LT LG LS LQ LX LO LP LV StX SL
open ND (DK Dk St)
open NS (fr cv hv headV)
open NT (Cc Sk Sd ST Fm cont newB fre setM dropD TxT TxH tno)
open NN (R Rows asc most ptr Wf ptrs cntLt cntLe)
/-! ### putting -/
theorem key_cases {rs : List R} (a : Asc rs) (ks : List Int) : ∃ A C, (∀ r ∈ A, klt r.1 ks) ∧ (∀ r ∈ C, klt ks r.1) ∧ ((rs = A ++ C ∧ get rs ks = none ∧ hasKey rs A.length ks = false) ∨ ∃ v, rs = A ++ (ks, v) :: C ∧ get rs ks = some v ∧ hasKey rs A.length ks = true) ∧ cntLt rs ks = A.length := by
  obtain ⟨A, B, rfl, h1, h2⟩ := split_at ks a
  have hB : Asc B := a.sub (List.sublist_append_right A B)
  have hg := get_split h1 h2 hB
  by_cases hk : hasKey (A ++ B) A.length ks = true
  · obtain ⟨v, C, rfl⟩ := hasKey_split.mp hk
    refine ⟨A, C, h1, fun r hr => (List.pairwise_cons.mp hB).1 r hr, .inr ⟨v, rfl, ?_, hk⟩, cntLt_split h1 h2⟩
    rw [hg, if_pos hk, List.getD_eq_getElem?_getD, List.getElem?_append_right (Nat.le_refl _), Nat.sub_self]
    rfl
  · refine ⟨A, B, h1, ?_, .inl ⟨rfl, by rw [hg, if_neg hk], eq_false_of_ne_true hk⟩, cntLt_split h1 h2⟩
    cases B with
    | nil => exact fun r h => by cases h
    | cons r0 C =>
      have h0 : r0.1 ≠ ks := fun e => hk (hasKey_split.mpr ⟨r0.2, C, by rw [← e]⟩)
      have g0 := nlt_gt (h2 r0 List.mem_cons_self) h0
      exact fun r hr => (List.mem_cons.mp hr).elim (fun z => z ▸ g0) fun z => klt_trans g0 ((List.pairwise_cons.mp hB).1 r z)
theorem ins_ac {A C : List R} {ks vs : List Int} (h1 : ∀ r ∈ A, klt r.1 ks) (h2 : ∀ r ∈ C, klt ks r.1) : ins (A ++ C) ks vs = A ++ (ks, vs) :: C := by
  have := ins_mid (X := A) (Y := []) (Z := C) (vs := vs) h1 h2
  rw [List.append_nil] at this
  rw [this]
  show A ++ [(ks, vs)] ++ C = _
  simp
theorem ins_ac' {A C : List R} {ks vs v : List Int} (h1 : ∀ r ∈ A, klt r.1 ks) (h2 : ∀ r ∈ C, klt ks r.1) : ins (A ++ (ks, v) :: C) ks vs = A ++ (ks, vs) :: C := by
  have := ins_mid (X := A) (Y := [(ks, v)]) (Z := C) (vs := vs) h1 h2
  rw [show A ++ [(ks, v)] ++ C = A ++ (ks, v) :: C by simp] at this
  rw [this]
  unfold ins
  simp [klt_f (klt_irr ks)]
theorem insL_eq' {rs : List R} (a : Asc rs) (ks vs : List Int) : insL rs ks vs = ins rs ks vs := by
  obtain ⟨A, B, rfl, h1, h2⟩ := split_at ks a
  exact ins_split h1 h2 (a.sub (List.sublist_append_right A B))
theorem asc_ac {A C : List R} {ks vs : List Int} (a : Asc (A ++ C)) (h1 : ∀ r ∈ A, klt r.1 ks) (h2 : ∀ r ∈ C, klt ks r.1) : Asc (A ++ (ks, vs) :: C) := by
  have a' := List.pairwise_append.mp a
  refine List.pairwise_append.mpr ⟨a'.1, List.pairwise_cons.mpr ⟨fun r hr => h2 r hr, a'.2.1⟩, fun x hx y hy => ?_⟩
  rcases List.mem_cons.mp hy with rfl | hy
  · exact h1 x hx
  · exact a'.2.2 x hx y hy
theorem ins_all {rs : List R} (a : Asc rs) (ks vs : List Int) : Asc (ins rs ks vs) ∧ rs.length ≤ (ins rs ks vs).length ∧ (ins rs ks vs).length ≤ rs.length + 1 ∧ 1 ≤ (ins rs ks vs).length ∧ ∀ r ∈ ins rs ks vs, r ∈ rs ∨ r = (ks, vs) := by
  obtain ⟨A, C, h1, h2, h | ⟨v, h⟩, _⟩ := key_cases a ks
  · rw [h.1, ins_ac h1 h2]
    refine ⟨asc_ac (by rw [← h.1]; exact a) h1 h2, by simp, by simp; omega, by simp; omega, fun r hr => ?_⟩
    simp only [List.mem_append, List.mem_cons] at hr ⊢
    rcases hr with hr | hr | hr
    · exact .inl (.inl hr)
    · exact .inr hr
    · exact .inl (.inr hr)
  · rw [h.1, ins_ac' h1 h2]
    refine ⟨asc_ac (a.sub (by rw [h.1]; exact List.Sublist.append_left (List.sublist_cons_self _ _) A)) h1 h2, by simp, by simp, by simp; omega, fun r hr => ?_⟩
    simp only [List.mem_append, List.mem_cons] at hr ⊢
    rcases hr with hr | hr | hr
    · exact .inl (.inl hr)
    · exact .inr hr
    · exact .inl (.inr (.inr hr))
structure Tr (k : Sk) (d : Sd) (h : Nat) (t : El (h + 1)) : Prop where
  o : OwnB k d (bks (h + 1) t)
  hd : Hd k d (h + 1) t
  ok : ∀ e ∈ t.2, Okt h e
  a : Asc (its (h + 1) t)
  m : (t.2.length : Int) ≤ most (kdh h)
theorem lnk0 (g : Int) (l : List (El 0)) : l.map (lnk g 0) = (l : List R) := by
  induction l with
  | nil => rfl
  | cons r l ih =>
    rw [List.map_cons, ih]
    rfl
theorem its0 (l : List (El 0)) : l.flatMap (its 0) = (l : List R) := by
  induction l with
  | nil => rfl
  | cons r l ih =>
    rw [List.flatMap_cons, ih]
    rfl
theorem bks0 (l : List (El 0)) : l.flatMap (bks 0) = [] := by
  induction l with
  | nil => rfl
  | cons r l ih =>
    rw [List.flatMap_cons, ih]
    rfl
theorem most_le (kd : Int) : most kd ≤ 5 ∧ 4 ≤ most kd := by
  unfold NN.most
  split <;> decide
section
variable {k : Sk} {d d' : Sd} {g : Int} {h : Nat}
theorem OwnB.new (o : OwnB k d B) {x : Nat} (hx : x ∈ B) {b : Int} : Own k d x b d x b := .new (o.ok x hx).2.1 (o.newB hx)
theorem Tr.nd {t : El (h + 1)} (s : Sok k d) (T : Tr k d h t) : Nd k d t.1 (kdh h) (t.2.map (lnk (k.g + 1) h)) := nd_of s T.o T.hd.1 T.m T.ok T.a
theorem Tr.child {t : El (h + 2)} (T : Tr k d (h + 1) t) {c : El (h + 1)} (hc : c ∈ t.2) (oc : OwnB k d (bks (h + 1) c)) : Tr k d h c ∧ 2 ≤ c.2.length := by
  obtain ⟨h1, h2, h3⟩ := T.ok c hc
  exact ⟨⟨oc, T.hd.2 c hc, h3, (List.pairwise_flatMap.mp T.a).1 c hc, h2⟩, h1⟩
theorem ws_ok {l : List (El h)} {b : Nat} (s : Sok k d) (r0 : 0 ≤ d.r) (o : OwnB k d (b :: l.flatMap (bks h))) (hd : ∀ e ∈ l, Hd k d h e) (ok : ∀ e ∈ l, Okt h e) (a : Asc (l.flatMap (its h))) (hl1 : 1 ≤ l.length) (hl : (l.length : Int) ≤ most (kdh h) + 1) (hr : d.r < fre k d) :
    ∃ (d' : Sd) (ts : List (El (h + 1))), Ws k d (kdh h) (l.map (lnk (k.g + 1) h)) b (k.g + 1) d' (ts.map (lnk (k.g + 1) (h + 1))) ∧ ts.flatMap (fun t => t.2) = l ∧ Chg k d d' (b :: l.flatMap (bks h)) (ts.flatMap (bks (h + 1))) ∧ (∀ t ∈ ts, Hd k d' (h + 1) t ∧ (∀ e ∈ t.2, Okt h e) ∧ (t.2.length : Int) ≤ most (kdh h)) ∧ ((∃ t, ts = [t] ∧ t.2 = l) ∨ ∃ t1 t2, ts = [t1, t2] ∧ 2 ≤ t1.2.length ∧ 2 ≤ t2.2.length) ∧ (ts.flatMap (bks (h + 1))).length ≤ 2 + (l.flatMap (bks h)).length := by
  have o1 : OwnB k d [b] := OwnB.left (C := l.flatMap (bks h)) o
  have g0 := s.g0
  obtain ⟨m5, m4⟩ := most_le (kdh h)
  by_cases hm : (l.length : Int) ≤ most (kdh h)
  · obtain ⟨d', w, c, hm'⟩ := chg_wr (b := k.g + 1) s o1 (wn_rows (g := k.g + 1) hm ok a (by omega)) (by omega)
    refine ⟨d', [(b, l)], .one (by rw [List.length_map]; exact hm) (fun z => ?_) w, ?_, ?_, fun t ht => ?_, .inl ⟨_, rfl, rfl⟩, ?_⟩
    · have := congrArg List.length z
      rw [List.length_map] at this
      simp at this
      rw [this] at hl1
      simp at hl1
    · simp
    · have := c.frame (C := l.flatMap (bks h)) o
      show Chg k d d' (b :: l.flatMap (bks h)) ((b :: l.flatMap (bks h)) ++ [])
      rw [List.append_nil]
      exact this
    · rw [List.mem_singleton.mp ht]
      exact ⟨⟨hm', fun e he => Hd.cong h e (fun x hx => c.stay o (List.mem_flatMap.mpr ⟨e, he, hx⟩)) (hd e he)⟩, ok, hm⟩
    · show ((b :: l.flatMap (bks h)) ++ []).length ≤ _
      rw [List.append_nil, List.length_cons]
      omega
  · have hhalf : half (l.map (lnk (k.g + 1) h)) = (l.length + 1) / 2 := by unfold half; rw [List.length_map]
    obtain ⟨m, hmm⟩ : ∃ m, m = (l.length + 1) / 2 := ⟨_, rfl⟩
    rw [← hmm] at hhalf
    have e0 : l.take m ++ l.drop m = l := List.take_append_drop m l
    have lx : (l.take m).length = m := by rw [List.length_take]; omega
    have ly : (l.drop m).length = l.length - m := List.length_drop
    have okx : ∀ e ∈ l.take m, Okt h e := fun e he => ok e (List.mem_of_mem_take he)
    have oky : ∀ e ∈ l.drop m, Okt h e := fun e he => ok e (List.mem_of_mem_drop he)
    have axy : Asc ((l.take m).flatMap (its h) ++ (l.drop m).flatMap (its h)) := by
      rw [← List.flatMap_append, e0]
      exact a
    obtain ⟨ax, ay, _⟩ := List.pairwise_append.mp axy
    obtain ⟨d1, w, c1, hm1⟩ := chg_wr (b := k.g + 1) s o1 (wn_rows (g := k.g + 1) (by omega) okx ax (by omega)) (by omega)
    have f1 := c1.fre
    have r1 := c1.r
    obtain ⟨d2, n2, mk, c2, hm2⟩ := chg_mk c1.ok (by omega) (wn_rows (g := k.g + 1) (by omega) oky ay (by omega)) (by simp at f1; omega)
    have c1' : Chg k d d1 (b :: l.flatMap (bks h)) (b :: l.flatMap (bks h)) := c1.frame (C := l.flatMap (bks h)) o
    have o2 : OwnB k d1 ([] ++ (b :: l.flatMap (bks h))) := c1'.own
    have c2' : Chg k d1 d2 (b :: l.flatMap (bks h)) (n2 :: b :: l.flatMap (bks h)) := c2.frame o2
    have st : ∀ x ∈ l.flatMap (bks h), d2.mem x = d.mem x := fun x hx => by rw [c2.stay o2 (List.mem_cons_of_mem _ hx), c1.stay o hx]
    have e1 : l.flatMap (bks h) = (l.take m).flatMap (bks h) ++ (l.drop m).flatMap (bks h) := by rw [← List.flatMap_append, e0]
    have eB : [(b, l.take m), (n2, l.drop m)].flatMap (bks (h + 1)) = (b :: (l.take m).flatMap (bks h)) ++ n2 :: (l.drop m).flatMap (bks h) := by
      show (b :: (l.take m).flatMap (bks h)) ++ ((n2 :: (l.drop m).flatMap (bks h)) ++ []) = _
      rw [List.append_nil]
    refine ⟨d2, [(b, l.take m), (n2, l.drop m)], ?_, ?_, ?_, fun t ht => ?_, .inr ⟨_, _, rfl, by show 2 ≤ (l.take m).length; omega, by show 2 ≤ (l.drop m).length; omega⟩, ?_⟩
    · have := Ws.two (k := k) (d := d) (d1 := d1) (d2 := d2) (kd := kdh h) (rs := l.map (lnk (k.g + 1) h)) (n := b) (n2 := n2) (b := k.g + 1) (by rw [List.length_map]; omega) (by rw [List.length_map]; omega) (by rw [hhalf, ← List.map_take]; exact w) (by rw [hhalf, ← List.map_drop]; exact mk)
      rw [hhalf, ← List.map_take, ← List.map_drop] at this
      exact this
    · show l.take m ++ (l.drop m ++ []) = l
      rw [List.append_nil, e0]
    · rw [eB]
      refine (c1'.trans s c2' o).perm (List.Perm.refl _) ?_
      rw [e1]
      exact (List.perm_middle (a := n2) (l₁ := b :: (l.take m).flatMap (bks h)) (l₂ := (l.drop m).flatMap (bks h))).symm
    · simp only [List.mem_cons, List.not_mem_nil, or_false] at ht
      rcases ht with rfl | rfl
      · exact ⟨⟨by rw [c2.stay o2 List.mem_cons_self]; exact hm1, fun e he => Hd.cong h e (fun x hx => st x (List.mem_flatMap.mpr ⟨e, List.mem_of_mem_take he, hx⟩)) (hd e (List.mem_of_mem_take he))⟩, okx, by show ((l.take m).length : Int) ≤ _; omega⟩
      · exact ⟨⟨hm2, fun e he => Hd.cong h e (fun x hx => st x (List.mem_flatMap.mpr ⟨e, List.mem_of_mem_drop he, hx⟩)) (hd e (List.mem_of_mem_drop he))⟩, oky, by show ((l.drop m).length : Int) ≤ _; omega⟩
    · rw [eB, e1]
      simp only [List.length_append, List.length_cons]
      omega
theorem pm1 {X Y Z : List Nat} {b : Nat} : (b :: (X ++ (Y ++ Z))).Perm (Y ++ b :: (X ++ Z)) := List.perm_iff_count.mpr fun x => by
  simp only [List.count_cons, List.count_append]
  omega
theorem take_map {α β : Type} (f : α → β) (P : List α) (c : α) (S : List α) : ((P ++ c :: S).map f).take P.length = P.map f ∧ ((P ++ c :: S).map f).drop (P.length + 1) = S.map f ∧ ((P ++ c :: S).map f)[P.length]? = some (f c) := by
  refine ⟨?_, ?_, ?_⟩
  · rw [← List.map_take, List.take_left]
  · rw [← List.map_drop, List.drop_append]
    simp
  · simp
/-- the results of a change among the children -/
theorem put_ok {ks vs : List Int} (hkv : Ro (ks, vs)) : ∀ (h : Nat) (d : Sd) (t : El (h + 1)), Sok k d → 0 ≤ d.r → Tr k d h t → (h = 0 ∨ 2 ≤ t.2.length) → d.r + (h + 1 : Nat) ≤ fre k d → ∃ (d' : Sd) (ts : List (El (h + 1))), PutB k ks vs (h + 1) d t.1 (k.g + 1) d' (ts.map (lnk (k.g + 1) (h + 1))) ∧ ts.flatMap (its (h + 1)) = ins (its (h + 1) t) ks vs ∧ Chg k d d' (bks (h + 1) t) (ts.flatMap (bks (h + 1))) ∧ (∀ t' ∈ ts, Hd k d' (h + 1) t' ∧ (∀ e ∈ t'.2, Okt h e) ∧ (t'.2.length : Int) ≤ most (kdh h)) ∧ ((∃ t1, ts = [t1] ∧ t.2.length ≤ t1.2.length ∧ 1 ≤ t1.2.length) ∨ ∃ t1 t2, ts = [t1, t2] ∧ 2 ≤ t1.2.length ∧ 2 ≤ t2.2.length) ∧ (ts.flatMap (bks (h + 1))).length ≤ (bks (h + 1) t).length + (h + 1)
  | 0, d, (b, l), s, r0, T, _, hf => by
    have a : Asc (l.flatMap (its 0)) := T.a
    have m : (l.length : Int) ≤ most (kdh 0) := T.m
    have o : OwnB k d (b :: l.flatMap (bks 0)) := T.o
    rw [its0] at a
    obtain ⟨i1, i2, i3, i4, i5⟩ := ins_all a ks vs
    have o' : OwnB k d (b :: (ins l ks vs : List (El 0)).flatMap (bks 0)) := by
      rw [bks0]
      rw [bks0] at o
      exact o
    obtain ⟨d', ts, w, e, c, p, q, n⟩ := ws_ok (h := 0) (l := (ins l ks vs : List (El 0))) s r0 o' (fun _ _ => trivial) (fun r hr => (i5 r hr).elim (T.ok r) fun z => by rw [z]; exact hkv) (by rw [its0]; exact i1) i4 (by omega) (by omega)
    have hi : ts.flatMap (its 1) = ts.flatMap fun t => t.2 := by
      congr 1
      funext t
      exact its0 t.2
    rw [lnk0] at w
    have nd := T.nd s
    have hn : Nd k d b 1 l := by
      have nd : Nd k d b (kdh 0) (l.map (lnk (k.g + 1) 0)) := nd
      rw [lnk0] at nd
      exact nd
    refine ⟨d', ts, .leaf (rs := l) (OwnB.new o List.mem_cons_self) hn (by rw [insL_eq' a]; exact w), ?_, ?_, p, ?_, ?_⟩
    · show _ = ins (l.flatMap (its 0)) ks vs
      rw [hi, e, its0]
    · show Chg k d d' (b :: l.flatMap (bks 0)) _
      rw [bks0] at c ⊢
      exact c
    · rcases q with ⟨t, e1, e2⟩ | q
      · exact .inl ⟨t, e1, by rw [e2]; exact i2, by rw [e2]; exact i4⟩
      · exact .inr q
    · rw [bks0] at n
      show _ ≤ (b :: l.flatMap (bks 0)).length + 1
      rw [bks0]
      exact n
  | h + 1, d, (b, l), s, r0, T, h2, hf => by
    have h2 : 2 ≤ l.length := h2.elim (fun z => absurd z (by omega)) id
    obtain ⟨P, c, S, rfl, hch, hS, hP⟩ := child_split (g := k.g + 1) T.ok T.a hkv.1 (fun z => by have z : l = [] := z; rw [z] at h2; simp at h2)
    have m : ((P ++ c :: S).length : Int) ≤ most (kdh (h + 1)) := T.m
    have a : Asc ((P ++ c :: S).flatMap (its (h + 1))) := T.a
    have ok : ∀ e ∈ P ++ c :: S, Okt (h + 1) e := T.ok
    have eB : bks (h + 2) (b, P ++ c :: S) = b :: (P.flatMap (bks (h + 1)) ++ (bks (h + 1) c ++ S.flatMap (bks (h + 1)))) := by
      show b :: (P ++ c :: S).flatMap (bks (h + 1)) = _
      rw [List.flatMap_append, List.flatMap_cons]
    have o := T.o
    rw [eB] at o
    have oc := o.perm pm1
    have hcm : c ∈ P ++ c :: S := List.mem_append_right _ List.mem_cons_self
    obtain ⟨Tc, lc⟩ := T.child (c := c) hcm oc.left
    obtain ⟨d1, cs, p, e, cg, q, n, z⟩ := put_ok hkv h d c s r0 Tc (.inr lc) (by omega)
    have cg' := cg.frame oc
    have st : ∀ x ∈ b :: (P.flatMap (bks (h + 1)) ++ S.flatMap (bks (h + 1))), d1.mem x = d.mem x := fun x hx => cg.stay oc hx
    have cl : cs.length = 1 ∨ cs.length = 2 := by
      rcases n with ⟨_, e, _⟩ | ⟨_, _, e, _⟩ <;> rw [e]
      · exact .inl rfl
      · exact .inr rfl
    have ic : Asc (its (h + 1) c) := Tc.a
    obtain ⟨lt1, lt2⟩ := child_lt ok a hS hP
    have ea : its (h + 2) (b, P ++ c :: S) = P.flatMap (its (h + 1)) ++ its (h + 1) c ++ S.flatMap (its (h + 1)) := by
      show (P ++ c :: S).flatMap (its (h + 1)) = _
      rw [List.flatMap_append, List.flatMap_cons, List.append_assoc]
    have ea' : (P ++ cs ++ S).flatMap (its (h + 1)) = ins (its (h + 2) (b, P ++ c :: S)) ks vs := by
      rw [List.flatMap_append, List.flatMap_append, e, ea, ins_mid lt1 lt2]
    have okn : ∀ x ∈ P ++ cs ++ S, Okt (h + 1) x := fun x hx => by
      rcases List.mem_append.mp hx with hx | hx
      · rcases List.mem_append.mp hx with hx | hx
        · exact ok x (List.mem_append_left _ hx)
        · obtain ⟨_, q2, q3⟩ := q x hx
          refine ⟨?_, q3, q2⟩
          rcases n with ⟨t1, e, n1, _⟩ | ⟨t1, t2, e, n1, n2⟩
          · rw [e] at hx
            rw [List.mem_singleton.mp hx]
            omega
          · rw [e] at hx
            simp only [List.mem_cons, List.not_mem_nil, or_false] at hx
            rcases hx with rfl | rfl
            · exact n1
            · exact n2
      · exact ok x (List.mem_append_right _ (List.mem_cons_of_mem _ hx))
    have hdn : ∀ x ∈ P ++ cs ++ S, Hd k d1 (h + 1) x := fun x hx => by
      rcases List.mem_append.mp hx with hx | hx
      · rcases List.mem_append.mp hx with hx | hx
        · exact Hd.cong (h + 1) x (fun y hy => st y (List.mem_cons_of_mem _ (List.mem_append_left _ (List.mem_flatMap.mpr ⟨x, hx, hy⟩)))) (T.hd.2 x (List.mem_append_left _ hx))
        · exact (q x hx).1
      · exact Hd.cong (h + 1) x (fun y hy => st y (List.mem_cons_of_mem _ (List.mem_append_right _ (List.mem_flatMap.mpr ⟨x, hx, hy⟩)))) (T.hd.2 x (List.mem_append_right _ (List.mem_cons_of_mem _ hx)))
    have eB' : (P ++ cs ++ S).flatMap (bks (h + 1)) = P.flatMap (bks (h + 1)) ++ (cs.flatMap (bks (h + 1)) ++ S.flatMap (bks (h + 1))) := by rw [List.flatMap_append, List.flatMap_append, List.append_assoc]
    have c3 : Chg k d d1 (bks (h + 2) (b, P ++ c :: S)) (b :: (P ++ cs ++ S).flatMap (bks (h + 1))) := by
      rw [eB, eB']
      exact cg'.perm pm1.symm pm1.symm
    have f1 := cg.fre
    have r1 := cg.r
    have ai := (ins_all T.a ks vs).1
    have ll : (P ++ cs ++ S).length + 1 = (P ++ c :: S).length + cs.length := by
      simp only [List.length_append, List.length_cons]
      omega
    obtain ⟨d2, ts, w, e2, c4, p4, q4, n4⟩ := ws_ok (h := h + 1) (l := P ++ cs ++ S) cg.ok (by omega) c3.own hdn okn (by rw [ea']; exact ai) (by omega) (by omega) (by omega)
    have hi : ts.flatMap (its (h + 2)) = (ts.flatMap fun t => t.2).flatMap (its (h + 1)) := by
      rw [List.flatMap_assoc]
      rfl
    obtain ⟨tk, dr, gt⟩ := take_map (lnk (k.g + 1) (h + 1)) P c S
    refine ⟨d2, ts, ?_, ?_, c3.trans s c4 T.o, p4, ?_, ?_⟩
    · refine .inner (rs := (P ++ c :: S).map (lnk (k.g + 1) (h + 1))) (OwnB.new T.o List.mem_cons_self) (T.nd s) (cn := c.1) (cb := k.g + 1) (ck := k0 (c.2.map (lnk (k.g + 1) h))) ?_ p (by rw [List.length_map]; omega) ?_
      · rw [hch, gt]
        rfl
      · rw [hch, tk, dr, ← List.map_append, ← List.map_append]
        exact w
    · rw [hi, e2, ea']
    · rcases q4 with ⟨t1, e3, e4⟩ | q4
      · refine .inl ⟨t1, e3, ?_, ?_⟩
        · rw [e4]
          show (P ++ c :: S).length ≤ _
          omega
        · rw [e4]
          omega
      · exact .inr q4
    · rw [eB'] at n4
      rw [eB]
      simp only [List.length_append, List.length_cons] at n4 ⊢
      omega
/-- the root -/
structure Ro1 (k : Sk) (d : Sd) (h : Nat) (t : El (h + 1)) : Prop where
  tr : Tr k d h t
  n : h = 0 ∨ 2 ≤ t.2.length
theorem put_root {ks vs : List Int} (hkv : Ro (ks, vs)) {d : Sd} {t : El (h + 1)} (s : Sok k d) (r0 : 0 ≤ d.r) (T : Ro1 k d h t) (hf : d.r + (h + 2 : Nat) ≤ fre k d) : ∃ (d' : Sd) (h' : Nat) (t' : El (h' + 1)), Put k ks vs (h + 1) d t.1 (k.g + 1) d' t'.1 (k.g + 1) ∧ its (h' + 1) t' = ins (its (h + 1) t) ks vs ∧ Chg k d d' (bks (h + 1) t) (bks (h' + 1) t') ∧ Ro1 k d' h' t' := by
  obtain ⟨d1, ts, p, e, c, q, n, z⟩ := put_ok hkv h d t s r0 T.tr T.n (by omega)
  have ai := (ins_all T.tr.a ks vs).1
  rw [← e] at ai
  rcases n with ⟨t1, rfl, n1, n2⟩ | ⟨t1, t2, rfl, n1, n2⟩
  · have eB : [t1].flatMap (bks (h + 1)) = bks (h + 1) t1 := by simp
    have eI : [t1].flatMap (its (h + 1)) = its (h + 1) t1 := by simp
    rw [eB] at c
    rw [eI] at e ai
    obtain ⟨q1, q2, q3⟩ := q t1 List.mem_cons_self
    exact ⟨d1, h, t1, .one p, e, c, ⟨c.own, q1, q2, ai, q3⟩, T.n.elim .inl fun z => .inr (by omega)⟩
  · have g0 := s.g0
    have f1 := c.fre
    have r1 := c.r
    have okt : ∀ x ∈ [t1, t2], Okt (h + 1) x := fun x hx => by
      obtain ⟨_, q2, q3⟩ := q x hx
      refine ⟨?_, q3, q2⟩
      simp only [List.mem_cons, List.not_mem_nil, or_false] at hx
      rcases hx with rfl | rfl
      · exact n1
      · exact n2
    have m4 := (most_le (kdh (h + 1))).2
    have hl2 : (([t1, t2] : List (El (h + 1))).length : Int) ≤ most (kdh (h + 1)) := by
      show (2 : Int) ≤ _
      omega
    obtain ⟨d2, n2', mk, c2, hm⟩ := chg_mk c.ok (by omega) (wn_rows (g := k.g + 1) hl2 okt ai (by omega)) (by omega)
    have o2 : OwnB k d1 ([] ++ [t1, t2].flatMap (bks (h + 1))) := c.own
    have c2' : Chg k d1 d2 ([t1, t2].flatMap (bks (h + 1))) (n2' :: [t1, t2].flatMap (bks (h + 1))) := c2.frame o2
    have c3 := c.trans s c2' T.tr.o
    refine ⟨d2, h + 1, (n2', [t1, t2]), .two p (fun z => absurd z (by simp)) (by simp) mk, e, c3, ⟨c3.own, ⟨hm, fun x hx => Hd.cong (h + 1) x (fun y hy => c2.stay o2 (List.mem_flatMap.mpr ⟨x, hx, hy⟩)) (q x hx).1⟩, okt, ai, hl2⟩, .inr ?_⟩
    show 2 ≤ 2
    omega
end

end NR

set_option Elab.async false
set_option linter.all false
set_option maxRecDepth 100000
set_option maxHeartbeats 4000000
namespace NR
open PySem PySem.Spec PyProof.Rows L2 Evl LK LT LG LS LQ LX LO LP LV StX SL
open ND (DK Dk St)
open NS (fr cv hv headV)
open NT (Cc Sk Sd ST Fm cont newB fre setM dropD TxT TxH tno)
open NN (R Rows asc most ptr Wf ptrs cntLt cntLe)
/-! ### asking and taking -/
theorem del_none {rs : List R} {ks : List Int} (h : get rs ks = none) : del rs ks = rs := by
  unfold get at h
  rw [Option.map_eq_none_iff, List.find?_eq_none] at h
  unfold del
  exact filter_all fun r hr => by
    have := h r hr
    simpa using this
theorem asc_del {rs : List R} (a : Asc rs) (ks : List Int) : Asc (del rs ks) := a.sub List.filter_sublist
theorem PutB.mono {k : Sk} {ks vs : List Int} {l : Nat} {d d' : Sd} {n : Nat} {b : Int} {ps : List R} (p : PutB k ks vs l d n b d' ps) : PutB k ks vs (l + 1) d n b d' ps := by
  induction p with
  | leaf o nd w => exact .leaf o nd w
  | inner o nd hc _ hl w ih => exact .inner o nd hc ih hl w
theorem PutB.le {k : Sk} {ks vs : List Int} {l l' : Nat} {d d' : Sd} {n : Nat} {b : Int} {ps : List R} (p : PutB k ks vs l d n b d' ps) (h : l ≤ l') : PutB k ks vs l' d n b d' ps := by
  induction h with
  | refl => exact p
  | step _ ih => exact ih.mono
theorem Put.le {k : Sk} {ks vs : List Int} {l l' : Nat} {d d' : Sd} {n n' : Nat} {b b' : Int} (p : Put k ks vs l d n b d' n' b') (h : l ≤ l') : Put k ks vs l' d n b d' n' b' := by
  cases p with
  | one p => exact .one (p.le h)
  | two p a b c => exact .two (p.le h) a b c
theorem TakeB.mono {k : Sk} {ks : List Int} {l : Nat} {d d' : Sd} {n n' : Nat} {b b' : Int} (p : TakeB k ks l d n b d' n' b') : TakeB k ks (l + 1) d n b d' n' b' := by
  induction p with
  | leaf o nd h w => exact .leaf o nd h w
  | inner o nd hc _ w hl wr ih => exact .inner o nd hc ih w hl wr
theorem TakeB.le {k : Sk} {ks : List Int} {l l' : Nat} {d d' : Sd} {n n' : Nat} {b b' : Int} (p : TakeB k ks l d n b d' n' b') (h : l ≤ l') : TakeB k ks l' d n b d' n' b' := by
  induction h with
  | refl => exact p
  | step _ ih => exact ih.mono
section
variable {k : Sk} {d d' : Sd} {g : Int} {h : Nat}
theorem lk_ok {ks : List Int} (hk : ks.length = 3) : ∀ (h : Nat) (t : El (h + 1)), Sok k d → Tr k d h t → (h = 0 ∨ 2 ≤ t.2.length) → Lk k d ks (h + 1) t.1 (get (its (h + 1) t) ks)
  | 0, (b, l), s, T, _ => by
    have a : Asc (l.flatMap (its 0)) := T.a
    rw [its0] at a
    have nd : Nd k d b (kdh 0) (l.map (lnk (k.g + 1) 0)) := T.nd s
    rw [lnk0] at nd
    obtain ⟨A, B, e, h1, h2⟩ := split_at ks a
    have hB : Asc B := Asc.sub (by rw [← e]; exact a) (List.sublist_append_right A B)
    have h3 := get_split h1 h2 hB
    have h4 := cntLt_split h1 h2
    rw [← e] at h3 h4
    show Lk k d ks 1 b (get (l.flatMap (its 0)) ks)
    rw [its0, h3, ← h4]
    exact .leaf nd
  | h + 1, (b, l), s, T, h2 => by
    have h2 : 2 ≤ l.length := h2.elim (fun z => absurd z (by omega)) id
    obtain ⟨P, c, S, rfl, hch, hS, hP⟩ := child_split (g := k.g + 1) T.ok T.a hk (fun z => by have z : l = [] := z; rw [z] at h2; simp at h2)
    have a : Asc ((P ++ c :: S).flatMap (its (h + 1))) := T.a
    have eB : bks (h + 2) (b, P ++ c :: S) = b :: (P.flatMap (bks (h + 1)) ++ (bks (h + 1) c ++ S.flatMap (bks (h + 1)))) := by
      show b :: (P ++ c :: S).flatMap (bks (h + 1)) = _
      rw [List.flatMap_append, List.flatMap_cons]
    have o := T.o
    rw [eB] at o
    have oc := o.perm pm1
    have hcm : c ∈ P ++ c :: S := List.mem_append_right _ List.mem_cons_self
    obtain ⟨Tc, lc⟩ := T.child (c := c) hcm oc.left
    have ih := lk_ok hk h c s Tc (.inr lc)
    obtain ⟨lt1, lt2⟩ := child_lt T.ok a hS hP
    have ea : its (h + 2) (b, P ++ c :: S) = P.flatMap (its (h + 1)) ++ its (h + 1) c ++ S.flatMap (its (h + 1)) := by
      show (P ++ c :: S).flatMap (its (h + 1)) = _
      rw [List.flatMap_append, List.flatMap_cons, List.append_assoc]
    rw [ea, get_mid lt1 lt2]
    obtain ⟨_, _, gt⟩ := take_map (lnk (k.g + 1) (h + 1)) P c S
    refine .inner (rs := (P ++ c :: S).map (lnk (k.g + 1) (h + 1))) (T.nd s) (cn := c.1) (cb := k.g + 1) (ck := k0 (c.2.map (lnk (k.g + 1) h))) ?_ ih
    rw [hch, gt]
    rfl
theorem pm2 {F1 F2 : List Nat} {b1 b2 : Nat} : (b1 :: (F1 ++ b2 :: F2)).Perm (b2 :: b1 :: (F1 ++ F2)) := List.perm_iff_count.mpr fun x => by
  simp only [List.count_cons, List.count_append]
  omega
theorem join_ok {X Y : List (El (h + 1))} {e1 e2 : El (h + 1)} (s : Sok k d) (T1 : Tr k d h e1) (T2 : Tr k d h e2) (o : OwnB k d (bks (h + 1) e1 ++ bks (h + 1) e2)) (a : Asc (its (h + 1) e1 ++ its (h + 1) e2)) (h3 : 3 ≤ e1.2.length + e2.2.length) :
    ∃ (d' : Sd) (ts : List (El (h + 1))), Join k d ((X ++ e1 :: e2 :: Y).map (lnk (k.g + 1) (h + 1))) X.length d' ((X ++ ts ++ Y).map (lnk (k.g + 1) (h + 1))) ∧ ts.flatMap (its (h + 1)) = its (h + 1) e1 ++ its (h + 1) e2 ∧ Chg k d d' (bks (h + 1) e1 ++ bks (h + 1) e2) (ts.flatMap (bks (h + 1))) ∧ (∀ t ∈ ts, Hd k d' (h + 1) t ∧ Okt (h + 1) t) ∧ (ts.length = 1 ∨ ts.length = 2) := by
  obtain ⟨b1, l1⟩ := e1
  obtain ⟨b2, l2⟩ := e2
  have g0 := s.g0
  have h3 : 3 ≤ l1.length + l2.length := h3
  have m1 : (l1.length : Int) ≤ most (kdh h) := T1.m
  have m2 : (l2.length : Int) ≤ most (kdh h) := T2.m
  obtain ⟨m5, m4⟩ := most_le (kdh h)
  have a : Asc ((l1 ++ l2).flatMap (its h)) := by
    rw [List.flatMap_append]
    exact a
  have ok : ∀ e ∈ l1 ++ l2, Okt h e := fun e he => (List.mem_append.mp he).elim (T1.ok e) (T2.ok e)
  have hd : ∀ e ∈ l1 ++ l2, Hd k d h e := fun e he => (List.mem_append.mp he).elim (T1.hd.2 e) (T2.hd.2 e)
  have o : OwnB k d (b1 :: (l1.flatMap (bks h) ++ b2 :: l2.flatMap (bks h))) := o
  have o1 : OwnB k d ([b1] ++ (l1.flatMap (bks h) ++ b2 :: l2.flatMap (bks h))) := o
  have n1 : Nd k d b1 (kdh h) (l1.map (lnk (k.g + 1) h)) := T1.nd s
  have n2 : Nd k d b2 (kdh h) (l2.map (lnk (k.g + 1) h)) := T2.nd s
  obtain ⟨_, _, g1⟩ := take_map (lnk (k.g + 1) (h + 1)) X ((b1, l1) : El (h + 1)) ((b2, l2) :: Y)
  obtain ⟨tk, _, _⟩ := take_map (lnk (k.g + 1) (h + 1)) X ((b1, l1) : El (h + 1)) ((b2, l2) :: Y)
  obtain ⟨_, dr, g2⟩ := take_map (lnk (k.g + 1) (h + 1)) (X ++ [(b1, l1)]) ((b2, l2) : El (h + 1)) Y
  have ec : X ++ [((b1, l1) : El (h + 1))] ++ (b2, l2) :: Y = X ++ (b1, l1) :: (b2, l2) :: Y := by simp
  rw [ec] at dr g2
  have lx : (X ++ [((b1, l1) : El (h + 1))]).length = X.length + 1 := by simp
  rw [lx] at dr g2
  have eF : l1.flatMap (bks h) ++ l2.flatMap (bks h) = (l1 ++ l2).flatMap (bks h) := by rw [List.flatMap_append]
  have pF : (b1 :: (l1.flatMap (bks h) ++ b2 :: l2.flatMap (bks h))).Perm ([b2] ++ (b1 :: (l1 ++ l2).flatMap (bks h))) := by
    rw [← eF]
    exact pm2
  have ob1 : Own k d b1 (k.g + 1) d b1 (k.g + 1) := OwnB.new o List.mem_cons_self
  have ob2 : Own k d b2 (k.g + 1) d b2 (k.g + 1) := OwnB.new o (List.mem_cons_of_mem _ (List.mem_append_right _ List.mem_cons_self))
  have er : l1.map (lnk (k.g + 1) h) ++ l2.map (lnk (k.g + 1) h) = (l1 ++ l2).map (lnk (k.g + 1) h) := by rw [List.map_append]
  by_cases hm : ((l1 ++ l2).length : Int) ≤ most (kdh h)
  · obtain ⟨d3, w, c1, hm1⟩ := chg_wr (b := k.g + 1) s o1.left (wn_rows (g := k.g + 1) hm ok a (by omega)) (by omega)
    have c1' : Chg k d d3 (b1 :: (l1.flatMap (bks h) ++ b2 :: l2.flatMap (bks h))) (b1 :: (l1.flatMap (bks h) ++ b2 :: l2.flatMap (bks h))) := c1.frame o1
    have o3 : OwnB k d3 ([b2] ++ (b1 :: (l1 ++ l2).flatMap (bks h))) := c1'.own.perm pF
    have c2 := chg_drop c1.ok o3.left
    have c2' : Chg k d3 (dropD d3 b2) ([b2] ++ (b1 :: (l1 ++ l2).flatMap (bks h))) (b1 :: (l1 ++ l2).flatMap (bks h)) := c2.frame o3
    obtain ⟨z1, z2, z3, z4⟩ := o3.ok b2 List.mem_cons_self
    refine ⟨dropD d3 b2, [((b1, l1 ++ l2) : El (h + 1))], ?_, ?_, ?_, fun t ht => ?_, .inl rfl⟩
    · have := Join.one (k := k) (d := d) (rs := (X ++ (b1, l1) :: (b2, l2) :: Y).map (lnk (k.g + 1) (h + 1))) (i := X.length) (kd := kdh h) (kd2 := kdh h) (k1 := k0 (l1.map (lnk (k.g + 1) h))) (k2 := k0 (l2.map (lnk (k.g + 1) h))) (b1 := k.g + 1) (b2 := k.g + 1) g1 g2 ob1 ob2 n1 n2 (by rw [er, List.length_map]; exact hm) (fun z => by
        have := congrArg List.length z
        rw [er, List.length_map, List.length_append] at this
        simp at this
        rw [this.1, this.2] at h3
        simp at h3) (by rw [er]; exact w) z1 z2 (by rw [z3]; decide)
      rw [er, tk, dr] at this
      have em : (X ++ [((b1, l1 ++ l2) : El (h + 1))] ++ Y).map (lnk (k.g + 1) (h + 1)) = X.map (lnk (k.g + 1) (h + 1)) ++ [(k0 ((l1 ++ l2).map (lnk (k.g + 1) h)), [(b1 : Int), k.g + 1])] ++ Y.map (lnk (k.g + 1) (h + 1)) := by
        rw [List.map_append, List.map_append]
        rfl
      rw [em]
      exact this
    · show ([((b1, l1 ++ l2) : El (h + 1))]).flatMap (its (h + 1)) = _
      rw [List.flatMap_cons, List.flatMap_nil, List.append_nil]
      show (l1 ++ l2).flatMap (its h) = _
      rw [List.flatMap_append]
      rfl
    · show Chg k d _ (b1 :: (l1.flatMap (bks h) ++ b2 :: l2.flatMap (bks h))) ((b1 :: (l1 ++ l2).flatMap (bks h)) ++ [])
      rw [List.append_nil]
      exact c1'.trans s (c2'.perm pF.symm (List.Perm.refl _)) o
    · rw [List.mem_singleton.mp ht]
      refine ⟨⟨by rw [c2.stay o3 List.mem_cons_self]; exact hm1, fun e he => Hd.cong h e (fun x hx => ?_) (hd e he)⟩, ?_, hm, ok⟩
      · have hx' : x ∈ (l1 ++ l2).flatMap (bks h) := List.mem_flatMap.mpr ⟨e, he, hx⟩
        rw [c2.stay o3 (List.mem_cons_of_mem _ hx')]
        refine c1.stay o1 ?_
        rw [← eF] at hx'
        rcases List.mem_append.mp hx' with z | z
        · exact List.mem_append_left _ z
        · exact List.mem_append_right _ (List.mem_cons_of_mem _ z)
      · show 2 ≤ (l1 ++ l2).length
        rw [List.length_append]
        omega
  · obtain ⟨m, hmm⟩ : ∃ m, m = ((l1 ++ l2).length + 1) / 2 := ⟨_, rfl⟩
    have hhalf : half ((l1 ++ l2).map (lnk (k.g + 1) h)) = m := by unfold half; rw [List.length_map, hmm]
    have e0 : (l1 ++ l2).take m ++ (l1 ++ l2).drop m = l1 ++ l2 := List.take_append_drop m _
    obtain ⟨L, hL⟩ : ∃ L, L = l1 ++ l2 := ⟨_, rfl⟩
    have ll : L.length = l1.length + l2.length := by rw [hL, List.length_append]
    rw [← hL] at hm e0 hmm ok hd a er eF pF hhalf
    have lx : (L.take m).length = m := by rw [List.length_take]; omega
    have ly : (L.drop m).length = L.length - m := List.length_drop
    have okx : ∀ e ∈ L.take m, Okt h e := fun e he => ok e (List.mem_of_mem_take he)
    have oky : ∀ e ∈ L.drop m, Okt h e := fun e he => ok e (List.mem_of_mem_drop he)
    have axy : Asc ((L.take m).flatMap (its h) ++ (L.drop m).flatMap (its h)) := by
      rw [← List.flatMap_append, e0]
      exact a
    obtain ⟨ax, ay, _⟩ := List.pairwise_append.mp axy
    obtain ⟨d3, w, c1, hm1⟩ := chg_wr (b := k.g + 1) s o1.left (wn_rows (g := k.g + 1) (by omega) okx ax (by omega)) (by omega)
    have c1' : Chg k d d3 (b1 :: (l1.flatMap (bks h) ++ b2 :: l2.flatMap (bks h))) (b1 :: (l1.flatMap (bks h) ++ b2 :: l2.flatMap (bks h))) := c1.frame o1
    have o3 : OwnB k d3 ([b2] ++ (b1 :: L.flatMap (bks h))) := c1'.own.perm pF
    obtain ⟨d4, w2, c2, hm2⟩ := chg_wr (b := k.g + 1) c1.ok o3.left (wn_rows (g := k.g + 1) (by omega) oky ay (by omega)) (by omega)
    have c2' : Chg k d3 d4 ([b2] ++ (b1 :: L.flatMap (bks h))) ([b2] ++ (b1 :: L.flatMap (bks h))) := c2.frame o3
    have e1 : L.flatMap (bks h) = (L.take m).flatMap (bks h) ++ (L.drop m).flatMap (bks h) := by rw [← List.flatMap_append, e0]
    have st : ∀ x ∈ L.flatMap (bks h), d4.mem x = d.mem x := fun x hx' => by
      rw [c2.stay o3 (List.mem_cons_of_mem _ hx')]
      refine c1.stay o1 ?_
      rw [← eF] at hx'
      rcases List.mem_append.mp hx' with z | z
      · exact List.mem_append_left _ z
      · exact List.mem_append_right _ (List.mem_cons_of_mem _ z)
    refine ⟨d4, [((b1, L.take m) : El (h + 1)), (b2, L.drop m)], ?_, ?_, ?_, fun t ht => ?_, .inr rfl⟩
    · have := Join.two (k := k) (d := d) (d4 := d4) (rs := (X ++ (b1, l1) :: (b2, l2) :: Y).map (lnk (k.g + 1) (h + 1))) (i := X.length) (kd := kdh h) (kd2 := kdh h) (k1 := k0 (l1.map (lnk (k.g + 1) h))) (k2 := k0 (l2.map (lnk (k.g + 1) h))) (b1 := k.g + 1) (b2 := k.g + 1) (m1 := b1) (m2 := b2) (c1 := k.g + 1) (c2 := k.g + 1) g1 g2 ob1 ob2 n1 n2 (by rw [er, List.length_map]; omega) (by rw [er, hhalf, ← List.map_take]; exact w) (by rw [er, hhalf, ← List.map_drop]; exact w2)
      rw [er, hhalf, tk, dr, ← List.map_take, ← List.map_drop] at this
      have em : (X ++ [((b1, L.take m) : El (h + 1)), (b2, L.drop m)] ++ Y).map (lnk (k.g + 1) (h + 1)) = X.map (lnk (k.g + 1) (h + 1)) ++ [(k0 ((L.take m).map (lnk (k.g + 1) h)), [(b1 : Int), k.g + 1]), (k0 ((L.drop m).map (lnk (k.g + 1) h)), [(b2 : Int), k.g + 1])] ++ Y.map (lnk (k.g + 1) (h + 1)) := by
        rw [List.map_append, List.map_append]
        rfl
      rw [em]
      exact this
    · show (L.take m).flatMap (its h) ++ ((L.drop m).flatMap (its h) ++ []) = l1.flatMap (its h) ++ l2.flatMap (its h)
      rw [List.append_nil, ← List.flatMap_append, e0, hL, List.flatMap_append]
    · show Chg k d d4 (b1 :: (l1.flatMap (bks h) ++ b2 :: l2.flatMap (bks h))) ((b1 :: (L.take m).flatMap (bks h)) ++ ((b2 :: (L.drop m).flatMap (bks h)) ++ []))
      rw [List.append_nil]
      refine c1'.trans s (c2'.perm pF.symm ?_) o
      rw [e1]
      exact (List.perm_middle (a := b2) (l₁ := b1 :: (L.take m).flatMap (bks h)) (l₂ := (L.drop m).flatMap (bks h))).symm
    · simp only [List.mem_cons, List.not_mem_nil, or_false] at ht
      rcases ht with rfl | rfl
      · exact ⟨⟨by rw [c2.stay o3 List.mem_cons_self]; exact hm1, fun e he => Hd.cong h e (fun x hx => st x (List.mem_flatMap.mpr ⟨e, List.mem_of_mem_take he, hx⟩)) (hd e (List.mem_of_mem_take he))⟩, by show 2 ≤ (L.take m).length; omega, by show ((L.take m).length : Int) ≤ _; omega, okx⟩
      · exact ⟨⟨hm2, fun e he => Hd.cong h e (fun x hx => st x (List.mem_flatMap.mpr ⟨e, List.mem_of_mem_drop he, hx⟩)) (hd e (List.mem_of_mem_drop he))⟩, by show 2 ≤ (L.drop m).length; omega, by show ((L.drop m).length : Int) ≤ _; omega, oky⟩
theorem pm3 {X Y E F : List Nat} : (X ++ (E ++ (F ++ Y))).Perm ((E ++ F) ++ (X ++ Y)) := List.perm_iff_count.mpr fun x => by
  simp only [List.count_append]
  omega
theorem pm4 {X Y E : List Nat} : (X ++ E ++ Y).Perm (E ++ (X ++ Y)) := List.perm_iff_count.mpr fun x => by
  simp only [List.count_append]
  omega
/-- the children after one of them has changed -/
theorem withc_ok {rs : List R} {P S : List (El (h + 1))} {c : El (h + 1)} (s : Sok k d) (o : OwnB k d ((P ++ c :: S).flatMap (bks (h + 1)))) (hd : ∀ e ∈ P ++ c :: S, Hd k d (h + 1) e) (okP : ∀ e ∈ P, Okt (h + 1) e) (okS : ∀ e ∈ S, Okt (h + 1) e) (Tc : Tr k d h c) (c1 : 1 ≤ c.2.length) (a : Asc ((P ++ c :: S).flatMap (its (h + 1)))) (l2 : 2 ≤ (P ++ c :: S).length)
    (tk : rs.take P.length = P.map (lnk (k.g + 1) (h + 1))) (dr : rs.drop (P.length + 1) = S.map (lnk (k.g + 1) (h + 1))) :
    ∃ (d' : Sd) (L : List (El (h + 1))), WithC k d rs P.length c.1 (k.g + 1) d' (L.map (lnk (k.g + 1) (h + 1))) ∧ L.flatMap (its (h + 1)) = (P ++ c :: S).flatMap (its (h + 1)) ∧ Chg k d d' ((P ++ c :: S).flatMap (bks (h + 1))) (L.flatMap (bks (h + 1))) ∧ (∀ t ∈ L, Hd k d' (h + 1) t ∧ Okt (h + 1) t) ∧ L.length ≤ (P ++ c :: S).length ∧ (P ++ c :: S).length ≤ L.length + 1 := by
  have er : rs.take P.length ++ [(k0 (c.2.map (lnk (k.g + 1) h)), [(c.1 : Int), k.g + 1])] ++ rs.drop (P.length + 1) = (P ++ c :: S).map (lnk (k.g + 1) (h + 1)) := by
    rw [tk, dr, List.map_append, List.map_cons, List.append_assoc]
    rfl
  have nd := Tc.nd s
  by_cases hc : 2 ≤ c.2.length
  · refine ⟨d, P ++ c :: S, ?_, rfl, Chg.refl s o, fun t ht => ⟨hd t ht, ?_⟩, Nat.le_refl _, Nat.le_succ _⟩
    · rw [← er]
      exact .ok nd (by rw [List.length_map]; exact hc)
    · rcases List.mem_append.mp ht with z | z
      · exact okP t z
      · rcases List.mem_cons.mp z with rfl | z
        · exact ⟨hc, Tc.m, Tc.ok⟩
        · exact okS t z
  · have main : ∀ (X Y : List (El (h + 1))) (e1 e2 : El (h + 1)), P ++ c :: S = X ++ e1 :: e2 :: Y → X.length = P.length - 1 → (∀ e ∈ X, Okt (h + 1) e) → (∀ e ∈ Y, Okt (h + 1) e) → (∀ e ∈ e1.2, Okt h e) → (∀ e ∈ e2.2, Okt h e) → (e1.2.length : Int) ≤ most (kdh h) → (e2.2.length : Int) ≤ most (kdh h) → 3 ≤ e1.2.length + e2.2.length → ∃ (d' : Sd) (L : List (El (h + 1))), WithC k d rs P.length c.1 (k.g + 1) d' (L.map (lnk (k.g + 1) (h + 1))) ∧ L.flatMap (its (h + 1)) = (P ++ c :: S).flatMap (its (h + 1)) ∧ Chg k d d' ((P ++ c :: S).flatMap (bks (h + 1))) (L.flatMap (bks (h + 1))) ∧ (∀ t ∈ L, Hd k d' (h + 1) t ∧ Okt (h + 1) t) ∧ L.length ≤ (P ++ c :: S).length ∧ (P ++ c :: S).length ≤ L.length + 1 := by
      intro X Y e1 e2 e hX okX okY ok1 ok2 m1 m2 h3
      rw [e] at o hd a er ⊢
      have eB : (X ++ e1 :: e2 :: Y).flatMap (bks (h + 1)) = X.flatMap (bks (h + 1)) ++ (bks (h + 1) e1 ++ (bks (h + 1) e2 ++ Y.flatMap (bks (h + 1)))) := by rw [List.flatMap_append, List.flatMap_cons, List.flatMap_cons]
      have eI : (X ++ e1 :: e2 :: Y).flatMap (its (h + 1)) = X.flatMap (its (h + 1)) ++ (its (h + 1) e1 ++ its (h + 1) e2 ++ Y.flatMap (its (h + 1))) := by rw [List.flatMap_append, List.flatMap_cons, List.flatMap_cons, List.append_assoc]
      rw [eB] at o ⊢
      rw [eI] at a ⊢
      have o' := o.perm pm3
      have a12 : Asc (its (h + 1) e1 ++ its (h + 1) e2) := (List.pairwise_append.mp (List.pairwise_append.mp a).2.1).1
      have T1 : Tr k d h e1 := ⟨o'.left.left, hd e1 (by simp), ok1, (List.pairwise_append.mp a12).1, m1⟩
      have T2 : Tr k d h e2 := ⟨o'.left.right, hd e2 (by simp), ok2, (List.pairwise_append.mp a12).2.1, m2⟩
      obtain ⟨d', ts, j, e3, cg, q, n⟩ := join_ok (X := X) (Y := Y) s T1 T2 o'.left a12 h3
      have cg' := cg.frame o'
      have st : ∀ (x : El (h + 1)), x ∈ X ∨ x ∈ Y → Hd k d' (h + 1) x := fun x hx => Hd.cong (h + 1) x (fun y hy => cg.stay o' (hx.elim (fun z => List.mem_append_left _ (List.mem_flatMap.mpr ⟨x, z, hy⟩)) fun z => List.mem_append_right _ (List.mem_flatMap.mpr ⟨x, z, hy⟩))) (hd x (hx.elim (fun z => List.mem_append_left _ z) fun z => List.mem_append_right _ (List.mem_cons_of_mem _ (List.mem_cons_of_mem _ z))))
      refine ⟨d', X ++ ts ++ Y, ?_, ?_, ?_, fun t ht => ?_, ?_, ?_⟩
      · refine .join (kd := kdh h) (cr := c.2.map (lnk (k.g + 1) h)) nd (by rw [List.length_map]; omega) ?_
        rw [er, ← hX]
        exact j
      · rw [List.flatMap_append, List.flatMap_append, e3, List.append_assoc]
      · rw [List.flatMap_append, List.flatMap_append]
        exact cg'.perm pm3.symm pm4.symm
      · rcases List.mem_append.mp ht with z | z
        · rcases List.mem_append.mp z with z | z
          · exact ⟨st t (.inl z), okX t z⟩
          · exact q t z
        · exact ⟨st t (.inr z), okY t z⟩
      · simp only [List.length_append, List.length_cons]
        omega
      · simp only [List.length_append, List.length_cons]
        omega
    by_cases hP : P = []
    · subst hP
      cases S with
      | nil => exact absurd l2 (by simp)
      | cons e2 Y =>
        obtain ⟨z1, z2, z3⟩ := okS e2 List.mem_cons_self
        exact main [] Y c e2 rfl rfl (fun e he => (by cases he)) (fun e he => okS e (List.mem_cons_of_mem _ he)) Tc.ok z3 Tc.m z2 (by omega)
    · obtain ⟨X, e1, rfl⟩ : ∃ X e1, P = X ++ [e1] := ⟨P.dropLast, P.getLast hP, (List.dropLast_concat_getLast hP).symm⟩
      obtain ⟨z1, z2, z3⟩ := okP e1 (by simp)
      exact main X S e1 c (by simp) (by simp) (fun e he => okP e (List.mem_append_left _ he)) okS z3 Tc.ok z2 Tc.m (by omega)
theorem take_ok {ks : List Int} (hk : ks.length = 3) : ∀ (h : Nat) (d : Sd) (t : El (h + 1)), Sok k d → Tr k d h t → (h = 0 ∨ 2 ≤ t.2.length) → get (its (h + 1) t) ks ≠ none → ∃ (d' : Sd) (t' : El (h + 1)), TakeB k ks (h + 1) d t.1 (k.g + 1) d' t'.1 (k.g + 1) ∧ its (h + 1) t' = del (its (h + 1) t) ks ∧ Chg k d d' (bks (h + 1) t) (bks (h + 1) t') ∧ Tr k d' h t' ∧ t.2.length ≤ t'.2.length + 1
  | 0, d, (b, l), s, T, _, hg => by
    have a : Asc (l.flatMap (its 0)) := T.a
    have m : (l.length : Int) ≤ most (kdh 0) := T.m
    have o : OwnB k d (b :: l.flatMap (bks 0)) := T.o
    have hg : get (l.flatMap (its 0)) ks ≠ none := hg
    have ok : ∀ e ∈ l, Okt 0 e := T.ok
    rw [its0] at a hg
    rw [bks0] at o
    have g0 := s.g0
    have nd : Nd k d b (kdh 0) (l.map (lnk (k.g + 1) 0)) := T.nd s
    rw [lnk0] at nd
    obtain ⟨A, C, h1, h2, ⟨_, e2, _⟩ | ⟨v, e, _⟩, hcn⟩ := key_cases a ks
    · exact absurd e2 hg
    obtain ⟨L, hL⟩ : ∃ L : List (El 0), L = A ++ C := ⟨_, rfl⟩
    have eer : (l : List R).eraseIdx (cntLt l ks) = L := by
      rw [hcn, e, List.eraseIdx_append_of_length_le (Nat.le_refl _), Nat.sub_self, hL]
      rfl
    have eD : del l ks = L := by rw [e, hL]; exact del_split h1 h2
    have lL : (l : List R).length = L.length + 1 := by
      rw [e, hL]
      simp
      omega
    have aL : Asc (L.flatMap (its 0)) := by
      rw [its0, ← eD]
      exact asc_del a ks
    have okL : ∀ e ∈ L, Okt 0 e := fun x hx => ok x (by
      have : x ∈ (l : List R).eraseIdx (cntLt l ks) := by rw [eer]; exact hx
      exact List.mem_of_mem_eraseIdx this)
    have mL : (L.length : Int) ≤ most (kdh 0) := by omega
    have w0 := wn_rows (g := k.g + 1) mL okL aL (by omega)
    rw [lnk0] at w0
    obtain ⟨d', w, c, hm'⟩ := chg_wr (b := k.g + 1) s o w0 (by omega)
    refine ⟨d', ((b, L) : El 1), .leaf (OwnB.new o List.mem_cons_self) nd ?_ ?_, ?_, ?_, ⟨?_, ⟨?_, fun _ _ => trivial⟩, okL, aL, mL⟩, ?_⟩
    · rw [hcn, e]
      simp
    · rw [eer]
      exact w
    · show L.flatMap (its 0) = del (l.flatMap (its 0)) ks
      rw [its0, its0, eD]
    · show Chg k d d' (b :: l.flatMap (bks 0)) (b :: L.flatMap (bks 0))
      rw [bks0, bks0]
      exact c
    · show OwnB k d' (b :: L.flatMap (bks 0))
      rw [bks0]
      exact c.own
    · show d'.mem b = some (NN.blk (kdh 0) (L.map (lnk (k.g + 1) 0)) (b : Int) (k.g + 1))
      rw [lnk0]
      exact hm'
    · show l.length ≤ L.length + 1
      omega
  | h + 1, d, (b, l), s, T, h2, hg => by
    have h2 : 2 ≤ l.length := h2.elim (fun z => absurd z (by omega)) id
    have g0 := s.g0
    obtain ⟨P, c, S, rfl, hch, hS, hP⟩ := child_split (g := k.g + 1) T.ok T.a hk (fun z => by have z : l = [] := z; rw [z] at h2; simp at h2)
    have m : ((P ++ c :: S).length : Int) ≤ most (kdh (h + 1)) := T.m
    have a : Asc ((P ++ c :: S).flatMap (its (h + 1))) := T.a
    have ok : ∀ e ∈ P ++ c :: S, Okt (h + 1) e := T.ok
    have eB : bks (h + 2) (b, P ++ c :: S) = b :: (P.flatMap (bks (h + 1)) ++ (bks (h + 1) c ++ S.flatMap (bks (h + 1)))) := by
      show b :: (P ++ c :: S).flatMap (bks (h + 1)) = _
      rw [List.flatMap_append, List.flatMap_cons]
    have o := T.o
    rw [eB] at o
    have oc := o.perm pm1
    have hcm : c ∈ P ++ c :: S := List.mem_append_right _ List.mem_cons_self
    obtain ⟨Tc, lc⟩ := T.child (c := c) hcm oc.left
    obtain ⟨lt1, lt2⟩ := child_lt ok a hS hP
    have ea : ∀ c : El (h + 1), its (h + 2) (b, P ++ c :: S) = P.flatMap (its (h + 1)) ++ its (h + 1) c ++ S.flatMap (its (h + 1)) := fun c => by
      show (P ++ c :: S).flatMap (its (h + 1)) = _
      rw [List.flatMap_append, List.flatMap_cons, List.append_assoc]
    rw [ea, get_mid lt1 lt2] at hg
    obtain ⟨d1, c', tb, e, cg, Tc', lc'⟩ := take_ok hk h d c s Tc (.inr lc) hg
    have cg' := cg.frame oc
    have st : ∀ x ∈ b :: (P.flatMap (bks (h + 1)) ++ S.flatMap (bks (h + 1))), d1.mem x = d.mem x := fun x hx => cg.stay oc hx
    have eB' : ∀ c : El (h + 1), (P ++ c :: S).flatMap (bks (h + 1)) = P.flatMap (bks (h + 1)) ++ (bks (h + 1) c ++ S.flatMap (bks (h + 1))) := fun c => by rw [List.flatMap_append, List.flatMap_cons]
    have c3 : Chg k d d1 (bks (h + 2) (b, P ++ c :: S)) (b :: (P ++ c' :: S).flatMap (bks (h + 1))) := by
      rw [eB, eB']
      exact cg'.perm pm1.symm pm1.symm
    have ea' : (P ++ c' :: S).flatMap (its (h + 1)) = del (its (h + 2) (b, P ++ c :: S)) ks := by
      rw [ea, del_mid lt1 lt2, ← e]
      exact ea c'
    have o1 : OwnB k d1 ((P ++ c' :: S).flatMap (bks (h + 1))) := OwnB.right (B := [b]) c3.own
    have hdn : ∀ x ∈ P ++ c' :: S, Hd k d1 (h + 1) x := fun x hx => by
      rcases List.mem_append.mp hx with hx | hx
      · exact Hd.cong (h + 1) x (fun y hy => st y (List.mem_cons_of_mem _ (List.mem_append_left _ (List.mem_flatMap.mpr ⟨x, hx, hy⟩)))) (T.hd.2 x (List.mem_append_left _ hx))
      · rcases List.mem_cons.mp hx with rfl | hx
        · exact Tc'.hd
        · exact Hd.cong (h + 1) x (fun y hy => st y (List.mem_cons_of_mem _ (List.mem_append_right _ (List.mem_flatMap.mpr ⟨x, hx, hy⟩)))) (T.hd.2 x (List.mem_append_right _ (List.mem_cons_of_mem _ hx)))
    obtain ⟨tk, dr, gt⟩ := take_map (lnk (k.g + 1) (h + 1)) P c S
    have ll : (P ++ c' :: S).length = (P ++ c :: S).length := by simp
    obtain ⟨d3, L, wc, e4, c4, q, n1, n2⟩ := withc_ok (rs := (P ++ c :: S).map (lnk (k.g + 1) (h + 1))) cg.ok o1 hdn (fun x hx => ok x (List.mem_append_left _ hx)) (fun x hx => ok x (List.mem_append_right _ (List.mem_cons_of_mem _ hx))) Tc' (by omega) (by rw [ea']; exact asc_del T.a ks) (by rw [ll]; exact h2) tk dr
    have q1 := fun t ht => (q t ht).1
    have q2 := fun t ht => (q t ht).2
    have aL : Asc (L.flatMap (its (h + 1))) := by
      rw [e4, ea']
      exact asc_del T.a ks
    have mL : (L.length : Int) ≤ most (kdh (h + 1)) := by omega
    have p1 : (b :: (P ++ c' :: S).flatMap (bks (h + 1))).Perm ((P ++ c' :: S).flatMap (bks (h + 1)) ++ [b]) := (List.perm_append_singleton b _).symm
    have c5 : Chg k d1 d3 (b :: (P ++ c' :: S).flatMap (bks (h + 1))) (b :: L.flatMap (bks (h + 1))) := (c4.frame (C := [b]) (c3.own.perm p1)).perm p1.symm (List.perm_append_singleton b _)
    have o3 : OwnB k d3 ([b] ++ L.flatMap (bks (h + 1))) := c5.own
    obtain ⟨d4, w, c6, hm6⟩ := chg_wr (b := k.g + 1) c4.ok o3.left (wn_rows (g := k.g + 1) mL q2 aL (by omega)) (by omega)
    have c6' : Chg k d3 d4 (b :: L.flatMap (bks (h + 1))) (b :: L.flatMap (bks (h + 1))) := c6.frame o3
    have c7 := (c3.trans s c5 T.o).trans s c6' T.o
    have m5 := (most_le (kdh (h + 1))).1
    refine ⟨d4, ((b, L) : El (h + 2)), ?_, ?_, c7, ⟨c7.own, ⟨hm6, fun x hx => Hd.cong (h + 1) x (fun y hy => c6.stay o3 (List.mem_flatMap.mpr ⟨x, hx, hy⟩)) (q1 x hx)⟩, q2, aL, mL⟩, ?_⟩
    · refine .inner (rs := (P ++ c :: S).map (lnk (k.g + 1) (h + 1))) (OwnB.new T.o List.mem_cons_self) (T.nd s) (cn := c.1) (cb := k.g + 1) (ck := k0 (c.2.map (lnk (k.g + 1) h))) ?_ tb ?_ (by rw [List.length_map]; omega) w
      · rw [hch, gt]
        rfl
      · rw [hch]
        exact wc
    · rw [← ea', ← e4]
      rfl
    · show (P ++ c :: S).length ≤ L.length + 1
      omega
theorem take_root {ks : List Int} (hk : ks.length = 3) {t : El (h + 1)} (s : Sok k d) (T : Ro1 k d h t) (hg : get (its (h + 1) t) ks ≠ none) : ∃ (d1 d' : Sd) (n1 : Nat) (h' : Nat) (t' : El (h' + 1)) (l' : Nat), TakeB k ks (h + 1) d t.1 (k.g + 1) d1 n1 (k.g + 1) ∧ Wor k l' d1 n1 (k.g + 1) d' t'.1 (k.g + 1) ∧ its (h' + 1) t' = del (its (h + 1) t) ks ∧ Chg k d d' (bks (h + 1) t) (bks (h' + 1) t') ∧ Ro1 k d' h' t' := by
  obtain ⟨d1, t1, tb, e, cg, T1, lt⟩ := take_ok hk h d t s T.tr T.n hg
  have nd1 := T1.nd cg.ok
  by_cases hs : h = 0 ∨ 2 ≤ t1.2.length
  · refine ⟨d1, d1, t1.1, h, t1, 1, tb, .stop nd1 ?_, e, cg, ⟨T1, hs⟩⟩
    rw [List.length_map]
    rintro ⟨z1, z2⟩
    rcases hs with rfl | hs
    · exact absurd z1 (by decide)
    · omega
  · cases h with
    | zero => exact absurd (.inl rfl) hs
    | succ h =>
      have hn : 2 ≤ t.2.length := T.n.elim (fun z => absurd z (by omega)) id
      have h1 : t1.2.length = 1 := by omega
      obtain ⟨b, l⟩ := t1
      have h1 : l.length = 1 := h1
      obtain ⟨c, rfl⟩ := List.length_eq_one_iff.mp h1
      obtain ⟨z1, z2, z3⟩ := T1.ok c List.mem_cons_self
      have eB : bks (h + 2) (b, [c]) = [b] ++ bks (h + 1) c := by
        show b :: (bks (h + 1) c ++ []) = _
        rw [List.append_nil]
        rfl
      have o1 := cg.own
      rw [eB] at o1
      have c2 := chg_drop cg.ok o1.left
      have c2' : Chg k d1 (dropD d1 b) ([b] ++ bks (h + 1) c) (bks (h + 1) c) := c2.frame o1
      rw [← eB] at c2'
      have c3 := cg.trans s c2' T.tr.o
      have eI : its (h + 2) (b, [c]) = its (h + 1) c := by
        show its (h + 1) c ++ [] = _
        rw [List.append_nil]
      have ac : Asc (its (h + 1) c) := by
        rw [← eI]
        exact T1.a
      have hdc : Hd k (dropD d1 b) (h + 1) c := Hd.cong (h + 1) c (fun y hy => c2.stay o1 hy) (T1.hd.2 c List.mem_cons_self)
      have Tc : Tr k (dropD d1 b) h c := ⟨c3.own, hdc, z3, ac, z2⟩
      refine ⟨d1, dropD d1 b, b, h, c, 2, tb, .go (ck := k0 (c.2.map (lnk (k.g + 1) h))) (cn := c.1) (cb := k.g + 1) nd1 ?_ (.stop (Tc.nd c2.ok) ?_), by rw [← eI]; exact e, c3, ⟨Tc, .inr z1⟩⟩
      · rw [(o1.ok b List.mem_cons_self).2.2.1]
        decide
      · rw [List.length_map]
        omega
/-- how many blocks there are and how deep it goes -/
theorem bks_le : ∀ (h : Nat) (e : El h), Okt h e → (bks h e).length + 1 ≤ (its h e).length ∧ 2 ^ h ≤ (its h e).length
  | 0, _, _ => ⟨Nat.le_refl _, Nat.le_refl _⟩
  | h + 1, (b, l), ok => by
    obtain ⟨h2, _, hc⟩ := ok
    have key : ∀ l : List (El h), (∀ e ∈ l, Okt h e) → (l.flatMap (bks h)).length + l.length ≤ (l.flatMap (its h)).length ∧ l.length * 2 ^ h ≤ (l.flatMap (its h)).length := by
      intro l
      induction l with
      | nil => exact fun _ => ⟨Nat.le_refl _, by simp⟩
      | cons e l ih =>
        intro hc
        obtain ⟨i1, i2⟩ := ih fun x hx => hc x (List.mem_cons_of_mem _ hx)
        obtain ⟨j1, j2⟩ := bks_le h e (hc e List.mem_cons_self)
        rw [List.flatMap_cons, List.flatMap_cons, List.length_append, List.length_append, List.length_cons, Nat.succ_mul]
        omega
    obtain ⟨k1, k2⟩ := key l hc
    have h2 : 2 ≤ l.length := h2
    have h4 : 2 * 2 ^ h ≤ l.length * 2 ^ h := Nat.mul_le_mul_right _ h2
    refine ⟨?_, ?_⟩
    · show (b :: l.flatMap (bks h)).length + 1 ≤ (l.flatMap (its h)).length
      rw [List.length_cons]
      omega
    · show 2 ^ (h + 1) ≤ (l.flatMap (its h)).length
      rw [Nat.pow_succ]
      omega
theorem root_le {t : El (h + 1)} (T : Ro1 k d h t) : (bks (h + 1) t).length ≤ (its (h + 1) t).length + 1 ∧ (h = 0 ∨ 2 ^ (h + 1) ≤ (its (h + 1) t).length) := by
  rcases T.n with rfl | hn
  · obtain ⟨b, l⟩ := t
    refine ⟨?_, .inl rfl⟩
    show (b :: l.flatMap (bks 0)).length ≤ _
    rw [bks0]
    simp
  · obtain ⟨a, b⟩ := bks_le (h + 1) t ⟨hn, T.tr.m, T.tr.ok⟩
    exact ⟨by omega, .inr b⟩
theorem depth_le {t : El (h + 1)} (T : Ro1 k d h t) (hl : (its (h + 1) t).length ≤ 63) : h + 1 ≤ 5 := by
  rcases (root_le T).2 with z | z
  · omega
  · refine Classical.byContradiction fun g => ?_
    have : 2 ^ 6 ≤ 2 ^ (h + 1) := Nat.pow_le_pow_right (by omega) (by omega)
    have e : (2 : Nat) ^ 6 = 64 := rfl
    omega
/-- how many keys there may be -/
theorem len_le {rs : List R} (a : Asc rs) (U : List (List Int)) (h : ∀ r ∈ rs, r.1 ∈ U) : rs.length ≤ U.length := by
  have nd : (rs.map (·.1)).Nodup := by
    rw [List.nodup_iff_pairwise_ne, List.pairwise_map]
    exact List.Pairwise.imp (fun h => klt_ne h) a
  have : (rs.map (·.1)) ⊆ U := by
    intro x hx
    obtain ⟨r, hr, e⟩ := List.mem_map.mp hx
    rw [← e]
    exact h r hr
  have := List.Nodup.length_le_of_subset nd this
  rw [List.length_map] at this
  exact this
/-- a new tree -/
theorem empty_root (s : Sok k d) (r0 : 0 ≤ d.r) (hf : d.r < fre k d) : ∃ (d' : Sd) (t : El 1), Mk k d 1 [] d' t.1 ∧ its 1 t = [] ∧ Chg k d d' [] (bks 1 t) ∧ Ro1 k d' 0 t := by
  have g0 := s.g0
  have w0 := wn_rows (h := 0) (l := []) (g := k.g + 1) (by decide) (fun e he => (by cases he)) (by exact List.Pairwise.nil) (by omega)
  obtain ⟨d', n, mk, c, hm⟩ := chg_mk s r0 w0 hf
  exact ⟨d', ((n, []) : El 1), mk, rfl, c, ⟨⟨c.own, ⟨hm, fun e he => (by cases he)⟩, fun e he => (by cases he), .nil, (by show (0 : Int) ≤ 4; omega)⟩, .inl rfl⟩⟩
end

end NR

set_option Elab.async false
set_option linter.all false
set_option maxRecDepth 100000
set_option maxHeartbeats 4000000
namespace NR
open PySem PySem.Spec PyProof.Rows L2 Evl LK LT LG LS LQ LX LO LP LV StX SL
open ND (DK Dk St)
open NS (fr cv hv headV)
open NT (Cc Sk Sd ST Fm cont newB fre setM dropD TxT TxH tno)
open NN (R Rows asc most ptr Wf ptrs cntLt cntLe)
open NN (TEx cut_from)
/-! ### the last item; the items between two keys -/
inductive La (k : Sk) (d : Sd) : Nat → Nat → Option R → Prop
  | leaf {l n : Nat} {rs : List R} (nd : Nd k d n 1 rs) : La k d (l + 1) n rs.getLast?
  | inner {l n cn : Nat} {cb : Int} {rs : List R} {ck : List Int} {o : Option R} (nd : Nd k d n 2 rs) (hc : rs.getLast? = some (ck, [(cn : Int), cb])) (h : La k d l cn o) : La k d (l + 1) n o
theorem La.inv {k : Sk} {d : Sd} {l n : Nat} {o : Option R} (h : La k d l n o) : ∃ kd rs, Nd k d n kd rs ∧ ((kd = 1 ∧ o = rs.getLast?) ∨ (kd = 2 ∧ ∃ (m cn : Nat) (cb : Int) (ck : List Int), l = m + 1 ∧ rs.getLast? = some (ck, [(cn : Int), cb]) ∧ La k d m cn o)) := by
  cases h with
  | leaf nd => exact ⟨1, _, nd, .inl ⟨rfl, rfl⟩⟩
  | inner nd hc h => exact ⟨2, _, nd, .inr ⟨rfl, _, _, _, _, rfl, hc, h⟩⟩
inductive Ib (k : Sk) (d : Sd) (lo hi : List Int) : Nat → Nat → List R → Prop
  | leaf {l n : Nat} {rs : List R} (nd : Nd k d n 1 rs) : Ib k d lo hi (l + 1) n ((rs.drop (cntLt rs lo)).take (cntLt rs hi - cntLt rs lo))
  | inner {l n : Nat} {rs : List R} {cn : Nat → Nat} {f : Nat → List R} (nd : Nd k d n 2 rs) (hc : ∀ (i : Nat) (r : R), (rs.drop (chI rs lo))[i]? = some r → HT.lexLt r.1 hi = true → ∃ cb : Int, r.2 = [(cn i : Int), cb]) (h : ∀ (i : Nat) (r : R), (rs.drop (chI rs lo))[i]? = some r → HT.lexLt r.1 hi = true → Ib k d lo hi l (cn i) (f i)) (hl : ∀ (i : Nat) (r : R), (rs.drop (chI rs lo))[i]? = some r → HT.lexLt r.1 hi = true → (f i).length ≤ 10000) : Ib k d lo hi (l + 1) n ((List.range (rs.drop (chI rs lo)).length).flatMap fun i => if HT.lexLt (NN.key (rs.drop (chI rs lo)) i) hi = true then f i else [])
theorem cut_mid2 (xs : List V) (s e : Nat) (hs : s ≤ xs.length) (he : e ≤ xs.length) : cutV xs (some (s : Int)) (some (e : Int)) = (xs.drop s).take (e - s) := by
  unfold cutV
  rw [HT.sIx_nat, HT.sIx_nat, show min s xs.length = s from Nat.min_eq_left hs, show min e xs.length = e from Nat.min_eq_left he]
theorem atI_last {xs : List V} {x : V} (h : xs[xs.length - 1]? = some x) : atI xs (-1) = some x := by
  have h0 : 0 < xs.length := by
    have := (List.getElem?_eq_some_iff.mp h).1
    omega
  unfold atI ixN
  rw [if_neg (by decide), if_pos (by omega)]
  show xs[((-1 : Int) + (xs.length : Int)).toNat]? = _
  rw [show ((-1 : Int) + (xs.length : Int)).toNat = xs.length - 1 by omega]
  exact h
theorem last_at {rs : List R} {r : R} (h : rs.getLast? = some r) : rs[rs.length - 1]? = some r := by
  rw [← h, List.getLast?_eq_getElem?]
def spLa (c : Cc) (Pt Pf Pw : Addr) : Sp := fun vs H Q _ => ∃ (G : Hp) (q : Addr) (k : Sk) (d : Sd) (t : Addr) (n l : Nat) (ys : List V) (o : Option R), vs = [.ref q, .ref t] ∧ W3 c Pt Pf Pw G H q k d ∧ H t = some (.tup (.int (n : Int) :: ys)) ∧ La k d l n o ∧
  (o = none → RetV .non H Q) ∧ ∀ r, o = some r → ∀ p a b H1, Ex H H1 → H1 p = some (.tup [.ref a, .ref b]) → H1 a = some (.tup (r.1.map V.int)) → H1 b = some (.tup (r.2.map V.int)) → Q (.ref p) H1
def spIb (K : PySem.W.Frag) (c : Cc) (Pt Pf Pw : Addr) (l : Nat) : Sp := fun vs H Q _ => ∃ (G : Hp) (q : Addr) (k : Sk) (d : Sd) (t lq hq : Addr) (n : Nat) (ys : List V) (lo hi : List Int) (out : List R), vs = [.ref q, .ref t, .ref lq, .ref hq] ∧ W3 c Pt Pf Pw G H q k d ∧ H t = some (.tup (.int (n : Int) :: ys)) ∧ H lq = some (.tup (lo.map V.int)) ∧ H hq = some (.tup (hi.map V.int)) ∧ Ib k d lo hi l n out ∧
  ∀ p xs H1, H p = none → Ex H H1 → H1 p = some (.lst xs) → Rows K H1 xs out → Q (.ref p) H1
theorem et_tru {K : PySem.W.Frag} {σ : L2.St} {H : Hp} {ta : TE} {p : Addr} {xs : List V} (ha : Ev ta σ H (.ref p)) (h : H p = some (.lst xs)) : EvT (fun σ H Q => ta σ H fun x H' => ∃ k, TruV K x H' k ∧ Q k H') σ H (!xs.isEmpty) := fun H1 e Q q =>
  ha H1 e _ fun H2 e2 => ⟨_, .inl ⟨xs, sq_of ((e.trans e2) _ _ h), rfl⟩, q H2 e2⟩
theorem s_extC {K : PySem.W.Frag} {σ : L2.St} {H : Hp} {ta : TE} {tA : TA} {D : Ends} {sp : Sp} {E : XK} {vs : List V} {l : Addr} {xs : List V} (hl : H l = some (.lst xs)) (ha : Ev ta σ H (.ref l)) (h : ∀ H1, Ex H H1 → EvA tA σ H1 vs) (k : ∀ H1, Ex H H1 → sp vs H1 (fun v H2 => ∃ p ys, v = .ref p ∧ H2 p = some (.lst ys) ∧ H2 l = some (.lst xs) ∧ xs.length + ys.length ≤ 100000 ∧ D.nx σ (upd H2 l (.lst (xs ++ ys)))) E) (mono : ∀ H1 (Q Q' : VK), (∀ v H2, Q v H2 → Q' v H2) → sp vs H1 Q E → sp vs H1 Q' E) : tDrop (tBM K "list" rExtend ta (tCons (tCall sp [] E tA) tNil)) D σ H :=
  ha H (Ex.refl _) _ fun H1 e1 => ⟨Or.inl ⟨rfl, xs, sq_of (e1 l _ hl)⟩, h H1 e1 H1 (Ex.refl _) _ fun H2 e2 => by
    rw [List.append_nil]
    refine mono H2 _ _ (fun v H3 hv => ?_) (k H2 (e1.trans e2))
    obtain ⟨p, ys, rfl, hp, hl3, hz, hk⟩ := hv
    exact ⟨l, p, xs, ys, rfl, rfl, hl3, hp, sz_of hz, hk⟩⟩
section
variable {P : Program} {w : World} {K : PySem.W.Frag} {mg : Str → Option Value} {base : Heap} {c : Cc} {Pt Pf Pw aK : Addr}
theorem spIb_mono {l : Nat} {vs : List V} {H : Hp} {Q Q' : VK} {E E' : XK} (m : ∀ v H2, Q v H2 → Q' v H2) (h : spIb K c Pt Pf Pw l vs H Q E) : spIb K c Pt Pf Pw l vs H Q' E' := by
  obtain ⟨G, q, k, d, t, lq, hq, n, ys, lo, hi, out, h1, h2, h3, h4, h5, h6, h7⟩ := h
  exact ⟨G, q, k, d, t, lq, hq, n, ys, lo, hi, out, h1, h2, h3, h4, h5, h6, fun p xs H1 a b c d => m _ _ (h7 p xs H1 a b c d)⟩
end

end NR

set_option Elab.async false
set_option linter.all false
set_option maxRecDepth 100000
set_option maxHeartbeats 4000000
namespace NR
open PySem PySem.Spec PyProof.Rows L2 Evl LK LT LG LS LQ LX LO LP LV StX SL
open ND (DK Dk St)
open NS (fr cv hv headV)
open NT (Cc Sk Sd ST Fm cont newB fre setM dropD TxT TxH tno)
open NN (R Rows asc most ptr Wf ptrs cntLt cntLe)
open NN (TEx cut_from)
/-! ### what the two give on a tree -/
theorem getLast_app {A B : List R} (h : B ≠ []) : (A ++ B).getLast? = B.getLast? := by
  obtain ⟨X, x, rfl⟩ : ∃ X x, B = X ++ [x] := ⟨B.dropLast, B.getLast h, (List.dropLast_concat_getLast h).symm⟩
  rw [← List.append_assoc, List.getLast?_concat, List.getLast?_concat]
section
variable {k : Sk} {d : Sd} {h : Nat}
theorem its_ne {t : El h} (ok : Okt h t) : its h t ≠ [] := by
  obtain ⟨r, rest, e, _⟩ := its_head 0 h t ok
  rw [e]
  exact fun z => by cases z
theorem la_ok : ∀ (h : Nat) (t : El (h + 1)), Sok k d → Tr k d h t → (h = 0 ∨ 2 ≤ t.2.length) → La k d (h + 1) t.1 (its (h + 1) t).getLast?
  | 0, (b, l), s, T, _ => by
    have nd : Nd k d b (kdh 0) (l.map (lnk (k.g + 1) 0)) := T.nd s
    rw [lnk0] at nd
    show La k d 1 b (l.flatMap (its 0)).getLast?
    rw [its0]
    exact .leaf nd
  | h + 1, (b, l), s, T, h2 => by
    have h2 : 2 ≤ l.length := h2.elim (fun z => absurd z (by omega)) id
    have hne : l ≠ [] := fun z => by rw [z] at h2; simp at h2
    obtain ⟨P, c, rfl⟩ : ∃ P c, l = P ++ [c] := ⟨l.dropLast, l.getLast hne, (List.dropLast_concat_getLast hne).symm⟩
    have eB : bks (h + 2) (b, P ++ [c]) = b :: (P.flatMap (bks (h + 1)) ++ (bks (h + 1) c ++ ([] : List (El (h + 1))).flatMap (bks (h + 1)))) := by
      show b :: (P ++ [c]).flatMap (bks (h + 1)) = _
      rw [List.flatMap_append, List.flatMap_cons]
    have o := T.o
    rw [eB] at o
    have oc := o.perm pm1
    obtain ⟨Tc, lc⟩ := T.child (c := c) (List.mem_append_right _ List.mem_cons_self) oc.left
    have ih := la_ok h c s Tc (.inr lc)
    have okc : Okt (h + 1) c := T.ok c (List.mem_append_right _ List.mem_cons_self)
    have ea : its (h + 2) (b, P ++ [c]) = P.flatMap (its (h + 1)) ++ its (h + 1) c := by
      show (P ++ [c]).flatMap (its (h + 1)) = _
      rw [List.flatMap_append, List.flatMap_cons, List.flatMap_nil, List.append_nil]
    rw [ea, getLast_app (its_ne okc)]
    refine .inner (rs := (P ++ [c]).map (lnk (k.g + 1) (h + 1))) (T.nd s) (cn := c.1) (cb := k.g + 1) (ck := k0 (c.2.map (lnk (k.g + 1) h))) ?_ ih
    rw [List.map_append, List.map_cons, List.map_nil, List.getLast?_concat]
    rfl
/-- the items from lo on, below hi -/
def btw (lo hi : List Int) (rs : List R) : List R := rs.filter fun r => !HT.lexLt r.1 lo && HT.lexLt r.1 hi
theorem btw_app (lo hi : List Int) (A B : List R) : btw lo hi (A ++ B) = btw lo hi A ++ btw lo hi B := List.filter_append ..
theorem btw_low {lo hi : List Int} {A : List R} (h : ∀ r ∈ A, klt r.1 lo) : btw lo hi A = [] := filter_no fun r hr => by
  have h1 : HT.lexLt r.1 lo = true := h r hr
  rw [h1]
  rfl
theorem btw_high {lo hi : List Int} {A : List R} (h : ∀ r ∈ A, ¬ klt r.1 hi) : btw lo hi A = [] := filter_no fun r hr => by
  rw [klt_f (h r hr), Bool.and_false]
/-- in one node: from the place of lo to the place of hi -/
theorem btw_leaf {rs : List R} (a : Asc rs) (lo hi : List Int) : (rs.drop (cntLt rs lo)).take (cntLt rs hi - cntLt rs lo) = btw lo hi rs := by
  obtain ⟨A, B, e, h1, h2⟩ := split_at lo a
  obtain ⟨C, D, e', h3, h4⟩ := split_at hi a
  have c1 := cntLt_split h1 h2
  have c2 := cntLt_split h3 h4
  rw [← e] at c1
  rw [← e'] at c2
  rw [c1, c2]
  by_cases hl : A.length ≤ C.length
  · obtain ⟨M, rfl⟩ : ∃ M, C = A ++ M := by
      refine ⟨C.drop A.length, ?_⟩
      have : A = C.take A.length := by
        have h5 : rs.take A.length = A := by rw [e, List.take_left]
        rw [e', List.take_append_of_le_length hl] at h5
        exact h5.symm
      conv => lhs; rw [← List.take_append_drop A.length C, ← this]
    rw [e', List.append_assoc, List.drop_left, List.length_append, Nat.add_sub_cancel_left, List.take_left, btw_app, btw_app, btw_low h1, btw_high h4, List.append_nil, List.nil_append]
    have hB : B = M ++ D := by
      have := e.symm.trans e'
      rw [List.append_assoc] at this
      exact List.append_cancel_left this
    refine (filter_all fun r hr => ?_).symm
    have a1 := h2 r (by rw [hB]; exact List.mem_append_left _ hr)
    have a2 : HT.lexLt r.1 hi = true := h3 r (List.mem_append_right _ hr)
    rw [klt_f a1, a2]
    rfl
  · rw [show C.length - A.length = 0 by omega, List.take_zero]
    have : btw lo hi rs = [] := by
      rw [e, btw_app, btw_low h1, List.nil_append]
      refine btw_high fun r hr => ?_
      obtain ⟨M, hM⟩ : ∃ M, D = M ++ B := by
        refine ⟨A.drop C.length, ?_⟩
        have h6 : rs.drop C.length = D := by rw [e', List.drop_left]
        rw [e, List.drop_append_of_le_length (by omega)] at h6
        exact h6.symm
      exact h4 r (by rw [hM]; exact List.mem_append_right _ hr)
    rw [this]
theorem klt_le {a b c : List Int} (h : ¬ klt b a) (g : klt b c) : klt a c := by
  rcases klt_tri a b with x | x | x
  · exact klt_trans x g
  · rw [x]
    exact g
  · exact absurd x h
theorem ib_ok {lo hi : List Int} (hlo : lo.length = 3) : ∀ (h : Nat) (t : El (h + 1)), Sok k d → Tr k d h t → (h = 0 ∨ 2 ≤ t.2.length) → (its (h + 1) t).length ≤ 10000 → Ib k d lo hi (h + 1) t.1 (btw lo hi (its (h + 1) t))
  | 0, (b, l), s, T, _, _ => by
    have a : Asc (l.flatMap (its 0)) := T.a
    have nd : Nd k d b (kdh 0) (l.map (lnk (k.g + 1) 0)) := T.nd s
    rw [lnk0] at nd
    show Ib k d lo hi 1 b (btw lo hi (l.flatMap (its 0)))
    rw [its0] at a ⊢
    rw [← btw_leaf a]
    exact .leaf nd
  | h + 1, (b, l), s, T, h2, hz => by
    have h2 : 2 ≤ l.length := h2.elim (fun z => absurd z (by omega)) id
    have hz : (l.flatMap (its (h + 1))).length ≤ 10000 := hz
    obtain ⟨P, c, S, rfl, hch, hS, hP⟩ := child_split (g := k.g + 1) T.ok T.a hlo (fun z => by have z : l = [] := z; rw [z] at h2; simp at h2)
    have ok : ∀ e ∈ P ++ c :: S, Okt (h + 1) e := T.ok
    have a : Asc ((P ++ c :: S).flatMap (its (h + 1))) := T.a
    obtain ⟨lt1, _⟩ := child_lt ok a hS hP
    have o : OwnB k d (b :: (P ++ c :: S).flatMap (bks (h + 1))) := T.o
    have own : ∀ e ∈ P ++ c :: S, OwnB k d (bks (h + 1) e) := fun e he => by
      have o' : OwnB k d ((P ++ c :: S).flatMap (bks (h + 1))) := OwnB.right (B := [b]) o
      exact ⟨(List.pairwise_flatMap.mp o'.nd).1 e he, fun x hx => o'.ok x (List.mem_flatMap.mpr ⟨e, he, hx⟩)⟩
    have len1 : ∀ e ∈ P ++ c :: S, (its (h + 1) e).length ≤ 10000 := fun e he => by
      obtain ⟨X, Y, e1⟩ := List.append_of_mem he
      rw [e1, List.flatMap_append, List.flatMap_cons, List.length_append, List.length_append] at hz
      omega
    have chd : ∀ e ∈ P ++ c :: S, Ib k d lo hi (h + 1) e.1 (btw lo hi (its (h + 1) e)) := fun e he => by
      obtain ⟨Te, le⟩ := T.child (c := e) he (own e he)
      exact ib_ok hlo h e s Te (.inr le) (len1 e he)
    have dr : ((P ++ c :: S).map (lnk (k.g + 1) (h + 1))).drop (chI ((P ++ c :: S).map (lnk (k.g + 1) (h + 1))) lo) = (c :: S).map (lnk (k.g + 1) (h + 1)) := by
      rw [hch, ← List.map_drop, List.drop_left]
    obtain ⟨W, hW⟩ : ∃ W, W = c :: S := ⟨_, rfl⟩
    have hWm : ∀ e ∈ W, e ∈ P ++ c :: S := fun e he => by
      rw [hW] at he
      exact List.mem_append_right _ he
    have at_ : ∀ (i : Nat) (r : R), (W.map (lnk (k.g + 1) (h + 1)))[i]? = some r → ∃ e, W[i]? = some e ∧ e ∈ W ∧ r = lnk (k.g + 1) (h + 1) e := fun i r hr => by
      rw [List.getElem?_map, Option.map_eq_some_iff] at hr
      obtain ⟨e, he, rfl⟩ := hr
      exact ⟨e, he, List.mem_of_getElem? he, rfl⟩
    have main := Ib.inner (lo := lo) (hi := hi) (l := h + 1) (cn := fun i => (W.map fun e => e.1).getD i 0) (f := fun i => (W.map fun e => btw lo hi (its (h + 1) e)).getD i []) (T.nd s) (fun i r hr _ => by
      have hr : (((P ++ c :: S).map (lnk (k.g + 1) (h + 1))).drop (chI ((P ++ c :: S).map (lnk (k.g + 1) (h + 1))) lo))[i]? = some r := hr
      rw [dr, ← hW] at hr
      obtain ⟨e, he, _, rfl⟩ := at_ i r hr
      refine ⟨k.g + 1, ?_⟩
      rw [List.getD_eq_getElem?_getD, List.getElem?_map, he]
      rfl) (fun i r hr _ => by
      have hr : (((P ++ c :: S).map (lnk (k.g + 1) (h + 1))).drop (chI ((P ++ c :: S).map (lnk (k.g + 1) (h + 1))) lo))[i]? = some r := hr
      rw [dr, ← hW] at hr
      obtain ⟨e, he, hm, rfl⟩ := at_ i r hr
      rw [List.getD_eq_getElem?_getD, List.getElem?_map, he, List.getD_eq_getElem?_getD, List.getElem?_map, he]
      exact chd e (hWm e hm)) (fun i r hr _ => by
      have hr : (((P ++ c :: S).map (lnk (k.g + 1) (h + 1))).drop (chI ((P ++ c :: S).map (lnk (k.g + 1) (h + 1))) lo))[i]? = some r := hr
      rw [dr, ← hW] at hr
      obtain ⟨e, he, hm, rfl⟩ := at_ i r hr
      rw [List.getD_eq_getElem?_getD, List.getElem?_map, he]
      exact Nat.le_trans (List.length_filter_le _ _) (len1 e (hWm e hm)))
    have dr2 : (((b, P ++ c :: S) : El (h + 2)).2.map (lnk (k.g + 1) (h + 1))).drop (chI (((b, P ++ c :: S) : El (h + 2)).2.map (lnk (k.g + 1) (h + 1))) lo) = W.map (lnk (k.g + 1) (h + 1)) := by
      rw [hW]
      exact dr
    rw [dr2] at main
    have aW : Asc (W.flatMap (its (h + 1))) := by
      rw [List.flatMap_append] at a
      rw [hW]
      exact (List.pairwise_append.mp a).2.1
    have okW : ∀ e ∈ W, Okt (h + 1) e := fun e he => ok e (hWm e he)
    have res : ((List.range (W.map (lnk (k.g + 1) (h + 1))).length).flatMap fun i => if HT.lexLt (NN.key (W.map (lnk (k.g + 1) (h + 1))) i) hi = true then (W.map fun e => btw lo hi (its (h + 1) e)).getD i [] else []) = btw lo hi (W.flatMap (its (h + 1))) := by
      have e1 : btw lo hi (W.flatMap (its (h + 1))) = W.flatMap fun e => btw lo hi (its (h + 1) e) := by
        unfold btw
        rw [List.filter_flatMap]
      have e2 : W.flatMap (fun e => btw lo hi (its (h + 1) e)) = W.flatMap fun e => if HT.lexLt (lnk (k.g + 1) (h + 1) e).1 hi = true then btw lo hi (its (h + 1) e) else [] := by
        rw [List.flatMap_def, List.flatMap_def]
        congr 1
        refine List.map_congr_left fun e he => ?_
        by_cases hb : HT.lexLt (lnk (k.g + 1) (h + 1) e).1 hi = true
        · rw [if_pos hb]
        · rw [if_neg hb]
          obtain ⟨r, rest, f1, f2, _⟩ := its_head (k.g + 1) (h + 1) e (okW e he)
          refine btw_high fun x hx hz => hb ?_
          have ae : Asc (its (h + 1) e) := (List.pairwise_flatMap.mp aW).1 e he
          rw [f1] at ae hx
          rw [← f2]
          rcases List.mem_cons.mp hx with rfl | hx
          · exact hz
          · exact klt_trans ((List.pairwise_cons.mp ae).1 x hx) hz
      rw [e1, e2, List.length_map, List.flatMap_def, List.flatMap_def]
      congr 1
      refine List.ext_getElem? fun i => ?_
      rw [List.getElem?_map, List.getElem?_map]
      by_cases hi' : i < W.length
      · have hk : NN.key (W.map (lnk (k.g + 1) (h + 1))) i = (lnk (k.g + 1) (h + 1) W[i]).1 := by
          unfold NN.key
          rw [List.getD_eq_getElem?_getD, List.getElem?_map, List.getElem?_eq_getElem hi']
          rfl
        rw [List.getElem?_range hi', List.getElem?_eq_getElem hi', Option.map_some, Option.map_some, hk, List.getD_eq_getElem?_getD, List.getElem?_map, List.getElem?_eq_getElem hi']
        rfl
      · rw [List.getElem?_eq_none (by rw [List.length_range]; omega), List.getElem?_eq_none (by omega)]
        rfl
    rw [res] at main
    have low : btw lo hi (P.flatMap (its (h + 1))) = [] := btw_low lt1
    show Ib k d lo hi (h + 2) b (btw lo hi ((P ++ c :: S).flatMap (its (h + 1))))
    rw [List.flatMap_append, btw_app, low, List.nil_append, ← hW]
    exact main
end

end NR

set_option Elab.async false
set_option linter.all false
set_option maxRecDepth 100000
set_option maxHeartbeats 4000000
namespace NR
open PySem PySem.Spec PyProof.Rows L2 Evl LK LT LG LS LQ LX LO LP LV StX SL
open ND (DK Dk St)
open NS (fr cv hv headV)
open NT (Cc Sk Sd ST Fm cont newB fre setM dropD TxT TxH tno)
open NN (R Rows asc most ptr Wf ptrs cntLt cntLe)
open NN (TEx cut_from)
/-! ### the height, the pointers of all nodes -/
inductive Hg (k : Sk) (d : Sd) : Nat → Nat → Prop
  | leaf {n : Nat} {rs : List R} (nd : Nd k d n 1 rs) : Hg k d 1 n
  | inner {l n cn : Nat} {cb : Int} {rs : List R} {ck : List Int} (nd : Nd k d n 2 rs) (hc : rs[0]? = some (ck, [(cn : Int), cb])) (h : Hg k d l cn) : Hg k d (l + 1) n
theorem Hg.inv {k : Sk} {d : Sd} {l n : Nat} (h : Hg k d l n) : ∃ kd rs, Nd k d n kd rs ∧ ((kd = 1 ∧ l = 1) ∨ (kd = 2 ∧ ∃ (m cn : Nat) (cb : Int) (ck : List Int), l = m + 1 ∧ rs[0]? = some (ck, [(cn : Int), cb]) ∧ Hg k d m cn)) := by
  cases h with
  | leaf nd => exact ⟨1, _, nd, .inl ⟨rfl, rfl⟩⟩
  | inner nd hc h => exact ⟨2, _, nd, .inr ⟨rfl, _, _, _, _, rfl, hc, h⟩⟩
/-- the pointers that a list of tuples is -/
inductive PL (H : Hp) : List V → List (Nat × Int) → Prop
  | nil : PL H [] []
  | cons {a : Addr} {xs : List V} {p : Nat × Int} {ps : List (Nat × Int)} (h : H a = some (.tup [.int (p.1 : Int), .int p.2])) (t : PL H xs ps) : PL H (.ref a :: xs) (p :: ps)
theorem PL.tmono {H H1 : Hp} {xs : List V} {ps : List (Nat × Int)} (e : NN.TEx H H1) (h : PL H xs ps) : PL H1 xs ps := by
  induction h with
  | nil => exact .nil
  | cons h _ ih => exact .cons (e _ _ h (fun l z => by cases z)) ih
theorem PL.mono {H H1 : Hp} {xs : List V} {ps : List (Nat × Int)} (h : PL H xs ps) (e : Ex H H1) : PL H1 xs ps := h.tmono (.of e)
theorem PL.app {H : Hp} {xs ys : List V} {ps qs : List (Nat × Int)} (h : PL H xs ps) (g : PL H ys qs) : PL H (xs ++ ys) (ps ++ qs) := by
  induction h with
  | nil => exact g
  | cons h _ ih => exact .cons h ih
theorem PL.len {H : Hp} {xs : List V} {ps : List (Nat × Int)} (h : PL H xs ps) : xs.length = ps.length := by
  induction h with
  | nil => rfl
  | cons _ _ ih => rw [List.length_cons, List.length_cons, ih]
theorem PL.at {H : Hp} {xs : List V} {ps : List (Nat × Int)} (h : PL H xs ps) : ∀ {i : Nat} {x : V}, xs[i]? = some x → ∃ a p, x = .ref a ∧ ps[i]? = some p ∧ H a = some (.tup [.int (p.1 : Int), .int p.2]) := by
  induction h with
  | nil => intro i x hx; cases hx
  | cons h _ ih =>
    intro i x hx
    cases i with
    | zero => cases hx; exact ⟨_, _, rfl, rfl, h⟩
    | succ i => exact ih hx
inductive Npt (k : Sk) (d : Sd) : Nat → Nat → Int → List (Nat × Int) → Prop
  | leaf {l n : Nat} {b : Int} {rs : List R} (nd : Nd k d n 1 rs) : Npt k d (l + 1) n b [(n, b)]
  | inner {l n : Nat} {b : Int} {rs : List R} {cn : Nat → Nat} {cb : Nat → Int} {f : Nat → List (Nat × Int)} (nd : Nd k d n 2 rs) (hc : ∀ (i : Nat) (r : R), rs[i]? = some r → r.2 = [(cn i : Int), cb i]) (h : ∀ (i : Nat) (r : R), rs[i]? = some r → Npt k d l (cn i) (cb i) (f i)) (hl : ∀ (i : Nat) (r : R), rs[i]? = some r → (f i).length ≤ 10000) : Npt k d (l + 1) n b ((n, b) :: (List.range rs.length).flatMap f)
theorem Npt.mono {k : Sk} {d : Sd} {l n : Nat} {b : Int} {ps : List (Nat × Int)} (h : Npt k d l n b ps) : Npt k d (l + 1) n b ps := by
  induction h with
  | leaf nd => exact .leaf nd
  | inner nd hc _ hl ih => exact .inner nd hc ih hl
theorem Npt.le {k : Sk} {d : Sd} {l l' n : Nat} {b : Int} {ps : List (Nat × Int)} (p : Npt k d l n b ps) (h : l ≤ l') : Npt k d l' n b ps := by
  induction h with
  | refl => exact p
  | step _ ih => exact ih.mono
def spHt (c : Cc) (Pt Pf Pw : Addr) : Sp := fun vs H Q _ => ∃ (G : Hp) (q : Addr) (k : Sk) (d : Sd) (t : Addr) (n l : Nat) (ys : List V), vs = [.ref q, .ref t] ∧ W3 c Pt Pf Pw G H q k d ∧ H t = some (.tup (.int (n : Int) :: ys)) ∧ Hg k d l n ∧ RetV (.int (l : Int)) H Q
def spNp (c : Cc) (Pt Pf Pw : Addr) (l : Nat) : Sp := fun vs H Q _ => ∃ (G : Hp) (q : Addr) (k : Sk) (d : Sd) (t : Addr) (n : Nat) (b : Int) (ps : List (Nat × Int)), vs = [.ref q, .ref t] ∧ W3 c Pt Pf Pw G H q k d ∧ H t = some (.tup [.int (n : Int), .int b]) ∧ Npt k d l n b ps ∧
  ∀ p xs H1, H p = none → Ex H H1 → H1 p = some (.lst xs) → PL H1 xs ps → Q (.ref p) H1
theorem spNp_mono {c : Cc} {Pt Pf Pw : Addr} {l : Nat} {vs : List V} {H : Hp} {Q Q' : VK} {E E' : XK} (m : ∀ v H2, Q v H2 → Q' v H2) (h : spNp c Pt Pf Pw l vs H Q E) : spNp c Pt Pf Pw l vs H Q' E' := by
  obtain ⟨G, q, k, d, t, n, b, ps, h1, h2, h3, h4, h7⟩ := h
  exact ⟨G, q, k, d, t, n, b, ps, h1, h2, h3, h4, fun p xs H1 a b c d => m _ _ (h7 p xs H1 a b c d)⟩
section
variable {P : Program} {w : World} {K : PySem.W.Frag} {mg : Str → Option Value} {base : Heap} {c : Cc} {Pt Pf Pw aK : Addr}
theorem ok_hgt {f f1 : Addr} {fd fd1 : FuncData} (F : Fun K "height" "height" sHe f fd) (FRn : Fun K "read_node" "read_node" sRn f1 fd1) (GRn : FnOk P w K mg base CX0 6 f1 fd1 ["store", "pointer"] (spRn K c Pt Pf Pw)) (bRn : Binds K fd1 ["store", "pointer"] []) (gRn : mg "read_node" = some (.ref f1)) (T : NN.Txt mg K aK) : FnOk P w K mg base CX0 7 f fd ["store", "root"] (spHt c Pt Pf Pw) := by
  obtain ⟨_, gINNER⟩ := T.gINNER
  refine F.ok scHe (fun vs H Q E h => ?_) (fun cdv A outer s H vs Q E hr h => ?_)
  · obtain ⟨G, q, k, d, t, n, l, ys, rfl, _⟩ := h
    rfl
  · obtain ⟨G, q, k, d, t, n, l, ys, rfl, W, ht, hL, qV⟩ := h
    refine ⟨_, (pss_cons (ps_asg (pe_call GRn (hr.mono (by omega)) (by rfl) gRn FRn.kp bRn .nil pass0 (pa_cons (pv 0) (pa_cons (pv 1) pa_nil))) (pg_tup (by rfl) (pgs_cons (pg_name (i := 2) scHe.nd rfl (Or.inl rfl)) (pgs_cons (pg_name (i := 3) scHe.nd rfl (Or.inl rfl)) pgs_nil))))
      (pss_cons (ps_set (i := 4) scHe.nd rfl (Or.inl rfl) pe_int)
      (pss_cons (ps_while PassesOwn.never (pt_cmpR op_eq (pv 2) (pe_glob (v := .int 2) rfl gINNER ⟨_, rfl⟩) (nomark _)) (pss_cons (ps_asg (pe_call GRn (hr.mono (by omega)) (by rfl) gRn FRn.kp bRn .nil pass0 (pa_cons (pv 0) (pa_cons (pe_ix ix_tup (pe_ix ix_list (pv 3) pe_int (fun _ _ => rfl)) pe_int (fun _ _ => rfl)) pa_nil))) (pg_tup (by rfl) (pgs_cons (pg_name (i := 2) scHe.nd rfl (Or.inl rfl)) (pgs_cons (pg_name (i := 3) scHe.nd rfl (Or.inl rfl)) pgs_nil))))
      (pss_one (ps_aug (i := 4) scHe.nd rfl (Or.inl rfl) pe_int ip_add))))
      (pss_one (ps_ret (pv 4)))))), ?_⟩
    obtain ⟨kd, rs, nd, hcase⟩ := hL.inv
    refine q_unpC (vs := [.ref q, .ref t]) (ea_cons (ev_var rfl) (ea_cons (ev_var rfl) ea_nil)) (fun H1 e1 => ⟨G, q, k, d, t, n, ys, kd, rs, rfl, W.ex e1, e1 _ _ ht, nd, fun tu it xs H2 htu hit e2 g1 g2 hR => ⟨tu, _, _, rfl, g1, ?_⟩⟩) (fun _ _ _ m h => spRn_mono m h)
    have e12 := e1.trans e2
    refine q_asg ev_c fun H3 e3 => ?_
    have e13 := e12.trans e3
    refine q_while (fun m σ' B => ∃ (n : Nat) (kd : Int) (rs : List R) (it : Addr) (xs : List V) (s : Int), σ' = [some (.ref q), some (.ref t), some (.int kd), some (.ref it), some (.int s)] ∧ Ex H B ∧ B it = some (.lst xs) ∧ Rows K B xs rs ∧ Nd k d n kd rs ∧ s + m = l ∧ ((kd = 1 ∧ m = 0) ∨ (kd = 2 ∧ ∃ (m' cn : Nat) (cb : Int) (ck : List Int), m = m' + 1 ∧ rs[0]? = some (ck, [(cn : Int), cb]) ∧ Hg k d m cn))) (l - 1) ⟨n, kd, rs, it, xs, 1, rfl, e13, e3 _ _ g2, hR.mono e3, nd, ?_, ?_⟩ ?_
    · have : 1 ≤ l := by
        cases hL with
        | leaf _ => exact Nat.le_refl _
        | inner _ _ _ => exact Nat.succ_pos _
      omega
    · rcases hcase with ⟨h1, h2⟩ | ⟨h1, m, cn, cb, ck, h2, h3, h4⟩
      · exact .inl ⟨h1, by omega⟩
      · have : 1 ≤ m := by
          cases h4 with
          | leaf _ => exact Nat.le_refl _
          | inner _ _ _ => exact Nat.succ_pos _
        exact .inr ⟨h1, m - 1, cn, cb, ck, by omega, h3, by rw [show l - 1 = m by omega]; exact h4⟩
    rintro m σ' B ⟨n, kd, rs, it, xs, st, rfl, eB, hit, hR, nd, hsm, hcase⟩
    refine ⟨decide (V.int kd = V.int 2), et_test (ev_op (ev_var rfl) ev_c (rv_eq rfl)), fun hb B1 b1 => ?_, fun hb B1 b1 => ?_⟩
    · have h2 : kd = 2 := V.int.inj (of_decide_eq_true hb)
      obtain ⟨_, m', cn, cb, ck, rfl, hc, hL'⟩ := hcase.resolve_left fun z => by omega
      obtain ⟨t3, kk, vv, x1, x2, x3⟩ := ptr_at hR hc
      obtain ⟨kd', rs', nd', hcase'⟩ := hL'.inv
      refine ⟨fun σ2 B2 => ∃ (n : Nat) (kd : Int) (rs : List R) (it : Addr) (xs : List V) (s : Int), σ2 = [some (.ref q), some (.ref t), some (.int kd), some (.ref it), some (.int s)] ∧ Ex H B2 ∧ B2 it = some (.lst xs) ∧ Rows K B2 xs rs ∧ Nd k d n kd rs ∧ s + m' = l ∧ ((kd = 1 ∧ m' = 0) ∨ (kd = 2 ∧ ∃ (m'' cn : Nat) (cb : Int) (ck : List Int), m' = m'' + 1 ∧ rs[0]? = some (ck, [(cn : Int), cb]) ∧ Hg k d m' cn)), fun σ2 B2 h => ⟨m', by omega, h⟩, ?_⟩
      have eB1 := eB.trans b1
      refine q_unpC (vs := [.ref q, .ref vv]) (ea_cons (ev_var rfl) (ea_cons (ev_op (ev_op (ev_var rfl) ev_c (rv_ixL (sq_of (b1 _ _ hit)) (atI_nat (j := 0) x1))) ev_c (rv_ixT (st_of (b1 _ _ x2)) (atI_nat (j := 1) rfl))) ea_nil)) (fun B2 b2 => ⟨G, q, k, d, vv, cn, [.int cb], kd', rs', rfl, W.ex (eB1.trans b2), (b1.trans b2) _ _ x3, nd', fun tu it' xs' B3 htu hit' b3 g1 g2 hR' => ⟨tu, _, _, rfl, g1, ?_⟩⟩) (fun _ _ _ m h => spRn_mono m h)
      refine s_asg (ev_op (ev_var rfl) ev_c rv_I0) fun B4 b4 => ?_
      refine ⟨cn, kd', rs', it', xs', st + 1, rfl, ((eB1.trans b2).trans b3).trans b4, b4 _ _ g2, hR'.mono b4, nd', by omega, ?_⟩
      rcases hcase' with ⟨h1, h2⟩ | ⟨h1, m, cn, cb, ck, h2, h3, h4⟩
      · exact .inl ⟨h1, by omega⟩
      · have : 1 ≤ m := by
          cases h4 with
          | leaf _ => exact Nat.le_refl _
          | inner _ _ _ => exact Nat.succ_pos _
        exact .inr ⟨h1, m - 1, cn, cb, ck, by omega, h3, by rw [show m' = m by omega]; exact h4⟩
    · have h1 : kd = 1 := by
        rcases nd.hk with h | h
        · exact h
        · exact absurd (congrArg V.int h) (of_decide_eq_false hb)
      obtain ⟨_, hm⟩ := hcase.resolve_right fun z => by omega
      have hst : st = (l : Int) := by omega
      subst hst
      exact s_ret (ev_var rfl) fun B3 b3 => qV B3 ((eB.trans b1).trans b3)
theorem ok_npt {f f1 : Addr} {fd fd1 : FuncData} (FNp : Fun K "node_pointers" "node_pointers" sNp f fd) (bNp : Binds K fd ["store", "root"] []) (gNp : mg "node_pointers" = some (.ref f)) (FRn : Fun K "read_node" "read_node" sRn f1 fd1) (GRn : FnOk P w K mg base CX0 6 f1 fd1 ["store", "pointer"] (spRn K c Pt Pf Pw)) (bRn : Binds K fd1 ["store", "pointer"] []) (gRn : mg "read_node" = some (.ref f1)) (T : NN.Txt mg K aK) : ∀ l : Nat, FnOk P w K mg base CX0 (7 + l) f fd ["store", "root"] (spNp c Pt Pf Pw l)
  | 0 => by
    refine FNp.ok (k := 6) scNp (fun vs H Q E h => ?_) (fun cdv A outer s H vs Q E hr h => ?_)
    · obtain ⟨G, q, k, d, t, n, b, ps, rfl, _⟩ := h
      rfl
    · obtain ⟨G, q, k, d, t, n, b, ps, rfl, _, _, hI, _⟩ := h
      cases hI
  | l + 1 => by
    obtain ⟨_, gINNER⟩ := T.gINNER
    have GNp := ok_npt FNp bNp gNp FRn GRn bRn gRn T l
    refine FNp.ok (k := 7 + l) scNp (fun vs H Q E h => ?_) (fun cdv A outer s H vs Q E hr h => ?_)
    · obtain ⟨G, q, k, d, t, n, b, ps, rfl, _⟩ := h
      rfl
    · obtain ⟨G, q, k, d, t, n, b, ps, rfl, W, ht, hI, qq⟩ := h
      refine ⟨_, (pss_cons (ps_asg (pe_call GRn (hr.mono (by omega)) (by rfl) gRn FRn.kp bRn .nil pass0 (pa_cons (pv 0) (pa_cons (pv 1) pa_nil))) (pg_tup (by rfl) (pgs_cons (pg_name (i := 2) scNp.nd rfl (Or.inl rfl)) (pgs_cons (pg_name (i := 3) scNp.nd rfl (Or.inl rfl)) pgs_nil))))
      (pss_cons (ps_set (i := 4) scNp.nd rfl (Or.inl rfl) (pe_lst (pa_cons (pv 1) pa_nil)))
      (pss_cons (ps_if (pt_cmpR op_eq (pv 2) (pe_glob (v := .int 2) rfl gINNER ⟨_, rfl⟩) (nomark _)) (pss_one (ps_for PassesOwn.never rfl (pi_list (pv 3)) (pg_tup (by rfl) (pgs_cons (pg_name (i := 5) scNp.nd rfl (Or.inl rfl)) (pgs_cons (pg_name (i := 6) scNp.nd rfl (Or.inl rfl)) pgs_nil))) (pss_one (ps_expr (pe_bm PySem.F.plainAttrs_list PySem.F.slot_list_extend PySem.F.type_list_extend mt_extend (pv 4) (pa_cons (pe_call GNp (hr.mono (by omega)) (by rfl) gNp FNp.kp bNp .nil pass0 (pa_cons (pv 0) (pa_cons (pv 6) pa_nil))) pa_nil)))))) pss_nil)
      (pss_one (ps_ret (pv 4)))))), ?_⟩
      cases hI with
      | leaf nd =>
        rename_i rs
        refine q_unpC (vs := [.ref q, .ref t]) (ea_cons (ev_var rfl) (ea_cons (ev_var rfl) ea_nil)) (fun H1 e1 => ⟨G, q, k, d, t, n, _, 1, rs, rfl, W.ex e1, e1 _ _ ht, nd, fun tu it xs H2 htu hit e2 g1 g2 hR => ⟨tu, _, _, rfl, g1, ?_⟩⟩) (fun _ _ _ m h => spRn_mono m h)
        have e12 := e1.trans e2
        refine q_asgL (xs := [.ref t]) (el_lst (ea_cons (ev_var rfl) ea_nil) (Nat.le_of_ble_eq_true rfl)) fun fo_ H3 hfo e3 h3 => ?_
        have e13 := e12.trans e3
        refine q_when (b := false) (et_is (et_test (ev_op (ev_var rfl) ev_c (rv_eq rfl))) (decide_eq_false fun z => by cases z)) (fun h => by cases h) (fun _ H4 e4 => ?_)
        exact s_ret (ev_var rfl) fun H5 e5 => (have e35 := e4.trans e5; qq fo_ _ H5 (fresh_back e12 hfo) (e13.trans e35) (e35 _ _ h3) (.cons ((e13.trans e35) _ _ ht) .nil))
      | inner nd hc hch hl =>
        rename_i rs cn cb fo
        refine q_unpC (vs := [.ref q, .ref t]) (ea_cons (ev_var rfl) (ea_cons (ev_var rfl) ea_nil)) (fun H1 e1 => ⟨G, q, k, d, t, n, _, 2, rs, rfl, W.ex e1, e1 _ _ ht, nd, fun tu it xs H2 htu hit e2 g1 g2 hR => ⟨tu, _, _, rfl, g1, ?_⟩⟩) (fun _ _ _ m h => spRn_mono m h)
        have e12 := e1.trans e2
        have hl5 := nd.len
        refine q_asgL (xs := [.ref t]) (el_lst (ea_cons (ev_var rfl) ea_nil) (Nat.le_of_ble_eq_true rfl)) fun fo_ H3 hfo e3 h3 => ?_
        have e13 := e12.trans e3
        have hif : it ≠ fo_ := fun z => by
          rw [z, hfo] at g2
          cases g2
        have hne : ∀ {x : Addr} {o : HO}, H x = some o → x ≠ fo_ := fun h z => by
          have := e12 _ _ h
          rw [z, hfo] at this
          cases this
        have fin : ∀ σ' B, (∃ zs y5 y6, σ' = [some (.ref q), some (.ref t), some (.int 2), some (.ref it), some (.ref fo_), y5, y6] ∧ Ex H B ∧ NN.TEx H3 B ∧ B it = some (.lst xs) ∧ B fo_ = some (.lst zs) ∧ zs.length ≤ 1 + 10000 * xs.length ∧ PL B zs ((n, b) :: (List.range xs.length).flatMap fo)) → Ev (tVar 4) σ' B (.ref fo_) ∧ ∀ B1, Ex B B1 → Q (.ref fo_) B1 := fun σ' B h => by
          obtain ⟨zs, y5, y6, rfl, eB, _, _, hz, _, hp⟩ := h
          exact ⟨ev_var rfl, fun B1 b1 => qq fo_ zs B1 (fresh_back e12 hfo) (eB.trans b1) (b1 _ _ hz) (by rw [← hR.len]; exact hp.mono b1)⟩
        refine q_when (b := true) (et_is (et_test (ev_op (ev_var rfl) ev_c (rv_eq rfl))) (decide_eq_true rfl)) (fun _ H4 e4 => ?_) (fun h => by cases h)
        have e14 := e13.trans e4
        have hR4 := hR.mono (e3.trans e4)
        refine s_forL (xs := xs) (ev_var rfl) (sq_of ((e3.trans e4) _ _ g2)) (fun i σ' B => ∃ zs y5 y6, σ' = [some (.ref q), some (.ref t), some (.int 2), some (.ref it), some (.ref fo_), y5, y6] ∧ Ex H B ∧ NN.TEx H3 B ∧ B it = some (.lst xs) ∧ B fo_ = some (.lst zs) ∧ zs.length ≤ 1 + 10000 * i ∧ PL B zs ((n, b) :: (List.range i).flatMap fo)) (fun B b => ⟨[.ref t], none, none, rfl, e14.trans b, .of (e4.trans b), (e4.trans b) _ _ (e3 _ _ g2), (e4.trans b) _ _ h3, Nat.le_refl _, .cons ((e14.trans b) _ _ ht) .nil⟩) (fun i σ' B _ h => by
          obtain ⟨_, _, _, _, _, _, hx, _⟩ := h
          exact sq_of hx) ?_ (fun σ' B h => ?_)
        · rintro i x σ' B hx ⟨zs, y5, y6, rfl, eB, tB, hit', hfoB, hlen, hP⟩
          obtain ⟨tt, ka, va, r, rfl, hr, x1, x2, x3⟩ := (hR.mono e3).atT hx
          have x1 := tB _ _ x1 (fun l z => by cases z)
          have x3 := tB _ _ x3 (fun l z => by cases z)
          rw [hc i r hr] at x3
          have x3 : B va = some (.tup [.int (cn i : Int), .int (cb i)]) := x3
          have hI := hch i r hr
          have hln := hl i r hr
          refine ⟨tt, [.ref ka, .ref va], rfl, st_of x1, rfl, .ref ka, [.ref va], rfl, .ref va, [], rfl, rfl, ?_⟩
          refine s_extC (vs := [.ref q, .ref va]) hfoB (ev_var rfl) (fun B2 b2 => ea_cons (ev_var rfl) (ea_cons (ev_var rfl) ea_nil)) (fun B2 b2 => ⟨G, q, k, d, va, cn i, cb i, fo i, rfl, W.ex (eB.trans b2), b2 _ _ x3, hI, fun p2 ws B3 hp2 b3 hp3 hP3 => ⟨p2, ws, rfl, hp3, (b2.trans b3) _ _ hfoB, ?_, ?_⟩⟩) (fun _ _ _ m h => spNp_mono m h)
          · have := hP3.len
            have hi5 : i < xs.length := (List.getElem?_eq_some_iff.mp hx).1
            rw [hR.len] at hi5
            omega
          · have hz := hP3.len
            have b13 := b2.trans b3
            have tu3 : NN.TEx B3 (upd B3 fo_ (.lst (zs ++ ws))) := TEx.upd (b13 _ _ hfoB)
            have tu : NN.TEx B (upd B3 fo_ (.lst (zs ++ ws))) := (TEx.of b13).trans tu3
            refine ⟨zs ++ ws, _, _, rfl, fun x o hx => by rw [upd_ne (hne hx)]; exact b13 _ _ (eB _ _ hx), tB.trans tu, by rw [upd_ne hif]; exact b13 _ _ hit', upd_same, by rw [List.length_append]; omega, ?_⟩
            rw [List.range_succ, List.flatMap_append, List.flatMap_cons, List.flatMap_nil, List.append_nil]
            exact PL.app (hP.tmono tu) (hP3.tmono tu3)
        · obtain ⟨h1, h2⟩ := fin σ' B h
          exact s_ret h1 h2
end
/-! ### .. on a tree -/
section
variable {k : Sk} {d : Sd}
theorem hg_ok : ∀ (h : Nat) (t : El (h + 1)), Sok k d → Tr k d h t → (h = 0 ∨ 2 ≤ t.2.length) → Hg k d (h + 1) t.1
  | 0, (b, l), s, T, _ => .leaf (T.nd s)
  | h + 1, (b, l), s, T, h2 => by
    have h2 : 2 ≤ l.length := h2.elim (fun z => absurd z (by omega)) id
    cases l with
    | nil => simp at h2
    | cons c S =>
      have o : OwnB k d (b :: (c :: S).flatMap (bks (h + 1))) := T.o
      have o' : OwnB k d ((c :: S).flatMap (bks (h + 1))) := OwnB.right (B := [b]) o
      rw [List.flatMap_cons] at o'
      obtain ⟨Tc, lc⟩ := T.child (c := c) List.mem_cons_self o'.left
      exact .inner (T.nd s) (cn := c.1) (cb := k.g + 1) (ck := k0 (c.2.map (lnk (k.g + 1) h))) rfl (hg_ok h c s Tc (.inr lc))
/-- the pointers of all nodes -/
abbrev pks (k : Sk) (bs : List Nat) : List (Nat × Int) := bs.map fun n => (n, k.g + 1)
theorem npt_ok : ∀ (h : Nat) (t : El (h + 1)), Sok k d → Tr k d h t → (h = 0 ∨ 2 ≤ t.2.length) → (bks (h + 1) t).length ≤ 10000 → Npt k d (h + 1) t.1 (k.g + 1) (pks k (bks (h + 1) t))
  | 0, (b, l), s, T, _, _ => by
    have e : bks 1 ((b, l) : El 1) = [b] := by
      show b :: l.flatMap (bks 0) = [b]
      rw [show l.flatMap (bks 0) = [] from List.flatMap_eq_nil_iff.mpr fun _ _ => rfl]
    rw [e]
    exact .leaf (T.nd s)
  | h + 1, (b, l), s, T, h2, hz => by
    have o : OwnB k d (b :: l.flatMap (bks (h + 1))) := T.o
    have o' : OwnB k d (l.flatMap (bks (h + 1))) := OwnB.right (B := [b]) o
    have hz : (b :: l.flatMap (bks (h + 1))).length ≤ 10000 := hz
    have own : ∀ e ∈ l, OwnB k d (bks (h + 1) e) := fun e he => ⟨(List.pairwise_flatMap.mp o'.nd).1 e he, fun x hx => o'.ok x (List.mem_flatMap.mpr ⟨e, he, hx⟩)⟩
    have len1 : ∀ e ∈ l, (bks (h + 1) e).length ≤ 10000 := fun e he => by
      obtain ⟨X, Y, e1⟩ := List.append_of_mem he
      rw [e1, List.flatMap_append, List.flatMap_cons, List.length_cons, List.length_append, List.length_append] at hz
      omega
    have at_ : ∀ (i : Nat) (r : R), (l.map (lnk (k.g + 1) (h + 1)))[i]? = some r → ∃ e, l[i]? = some e ∧ e ∈ l ∧ r = lnk (k.g + 1) (h + 1) e := fun i r hr => by
      rw [List.getElem?_map, Option.map_eq_some_iff] at hr
      obtain ⟨e, he, rfl⟩ := hr
      exact ⟨e, he, List.mem_of_getElem? he, rfl⟩
    have main := Npt.inner (b := k.g + 1) (l := h + 1) (cn := fun i => (l.map fun e => e.1).getD i 0) (cb := fun _ => k.g + 1) (f := fun i => (l.map fun e => pks k (bks (h + 1) e)).getD i []) (T.nd s) (fun i r hr => by
      obtain ⟨e, he, _, rfl⟩ := at_ i r hr
      rw [List.getD_eq_getElem?_getD, List.getElem?_map, he]
      rfl) (fun i r hr => by
      obtain ⟨e, he, hm, rfl⟩ := at_ i r hr
      rw [List.getD_eq_getElem?_getD, List.getElem?_map, he, List.getD_eq_getElem?_getD, List.getElem?_map, he]
      obtain ⟨Te, le⟩ := T.child (c := e) hm (own e hm)
      exact npt_ok h e s Te (.inr le) (len1 e hm)) (fun i r hr => by
      obtain ⟨e, he, hm, rfl⟩ := at_ i r hr
      rw [List.getD_eq_getElem?_getD, List.getElem?_map, he]
      show (pks k (bks (h + 1) e)).length ≤ 10000
      rw [List.length_map]
      exact len1 e hm)
    have e : pks k (bks (h + 2) ((b, l) : El (h + 2))) = (b, k.g + 1) :: (List.range (l.map (lnk (k.g + 1) (h + 1))).length).flatMap fun i => (l.map fun e => pks k (bks (h + 1) e)).getD i [] := by
      show (b :: l.flatMap (bks (h + 1))).map (fun n => (n, k.g + 1)) = _
      rw [List.map_cons, List.map_flatMap, List.length_map (f := lnk (k.g + 1) (h + 1))]
      congr 1
      rw [List.flatMap_def, List.flatMap_def]
      congr 1
      apply List.ext_getElem
      · simp
      · intro i h1 h2
        simp only [List.length_map] at h1
        simp [List.getD_eq_getElem?_getD, List.getElem?_eq_getElem h1]
    rw [e]
    exact main
end

end NR

set_option Elab.async false
set_option linter.all false
set_option maxRecDepth 100000
set_option maxHeartbeats 4000000
namespace NR
open PySem PySem.Spec PyProof.Rows L2 Evl LK LT LG LS LQ LX LO LP LV StX SL
abbrev sCl : Stmt := top 73
theorem scCl : FnScope ["script", "k"] ["script", "k"] (defScope sCl) := ⟨rfl, rfl, rfl, by decide +kernel, rfl, by decide +kernel, by decide +kernel⟩
abbrev sLst : Stmt := top 74
theorem scLst : FnScope ["blocks", "generation", "space", "store"] ["blocks", "generation"] (defScope sLst) := ⟨rfl, rfl, rfl, by decide +kernel, rfl, by decide +kernel, by decide +kernel⟩
abbrev sDe : Stmt := top 75
theorem scDe : FnScope ["script", "deeds", "cell", "left", "turn"] ["script"] (defScope sDe) := ⟨rfl, rfl, rfl, by decide +kernel, rfl, by decide +kernel, by decide +kernel⟩
abbrev sKe : Stmt := top 76
theorem scKe : FnScope ["script", "index", "wide", "kinds", "rest"] ["script", "index"] (defScope sKe) := ⟨rfl, rfl, rfl, by decide +kernel, rfl, by decide +kernel, by decide +kernel⟩
abbrev sLp : Stmt := top 77
theorem scLp : FnScope ["words", "size", "turn"] ["words"] (defScope sLp) := ⟨rfl, rfl, rfl, by decide +kernel, rfl, by decide +kernel, by decide +kernel⟩
abbrev sLs : Stmt := top 78
theorem scLs : FnScope ["words", "pointer", "top", "low"] ["words", "pointer", "top", "low"] (defScope sLs) := ⟨rfl, rfl, rfl, by decide +kernel, rfl, by decide +kernel, by decide +kernel⟩
abbrev sLw : Stmt := top 79
theorem scLw : FnScope ["store", "root", "left", "keys", "seen", "depths", "turn", "pointer", "depth", "low", "words", "parts", "part"] ["store", "root"] (defScope sLw) := ⟨rfl, rfl, rfl, by decide +kernel, rfl, by decide +kernel, by decide +kernel⟩
abbrev sLaw : Stmt := top 80
theorem scLaw : FnScope ["script", "store", "before", "root", "due", "deed", "key", "told", "other"] ["script"] (defScope sLaw) := ⟨rfl, rfl, rfl, by decide +kernel, rfl, by decide +kernel, by decide +kernel⟩
open ND (DK Dk St)
open NS (fr cv hv headV)
open NT (Cc Sk Sd ST Fm cont newB fre setM dropD TxT TxH tno)
open NN (R Rows asc most ptr Wf ptrs cntLt cntLe TEx)
/-! ### a law's helpers on trees: cells, keys, deeds -/
def spCl (K : PySem.W.Frag) : Sp := fun vs H Q _ => ∃ (a : Addr) (ns : List Int) (k : Nat), vs = [.ref a, .int (k : Int)] ∧ SqL K H a (ns.map V.int) ∧ RetV (.int (ns.getD k 0)) H Q
def kindF (z : Int) : Int := if z = 0 then 1 else if z = 1 then 2 else if z = 2 then 5 else 7
def keyF (c j : Int) : List Int := [1 + j % 3 + c % 10 ^ 25 % 97, kindF (j / 3 % 4), j / 12 * (1 + c % 10 ^ 25 / 97 % 10 ^ 6) + c % 10 ^ 25 / 10 ^ 9]
theorem kind_at {z : Int} (h0 : 0 ≤ z) (h : z < 4) : atI [V.int 1, .int 2, .int 5, .int 7] z = some (.int (kindF z)) := by
  obtain ⟨k, rfl⟩ : ∃ k : Nat, z = k := ⟨z.toNat, by omega⟩
  rcases (by omega : k = 0 ∨ k = 1 ∨ k = 2 ∨ k = 3) with rfl | rfl | rfl | rfl <;> rfl
theorem key_len (c j : Int) : (keyF c j).length = 3 := rfl
theorem key_nn (c : Int) {j : Int} (h : 0 ≤ j) : ∀ z ∈ keyF c j, 0 ≤ z := by
  have h1 : 0 ≤ c % 10 ^ 25 := Int.emod_nonneg _ (by decide)
  obtain ⟨w, hw⟩ : ∃ w, w = c % 10 ^ 25 := ⟨_, rfl⟩
  intro z hz
  unfold keyF at hz
  rw [← hw] at hz h1
  simp only [List.mem_cons, List.not_mem_nil, or_false] at hz
  rcases hz with rfl | rfl | rfl
  · omega
  · unfold kindF
    split
    · decide
    · split
      · decide
      · split <;> decide
  · have a1 : 0 ≤ j / 12 := by omega
    have a2 : 0 ≤ 1 + w / 97 % 10 ^ 6 := by omega
    have a3 : 0 ≤ w / 10 ^ 9 := by omega
    have a4 := Int.mul_nonneg a1 a2
    omega
def spKe (K : PySem.W.Frag) : Sp := fun vs H Q _ => ∃ (a : Addr) (ns : List Int) (j : Int), vs = [.ref a, .int j] ∧ SqL K H a (ns.map V.int) ∧ 0 ≤ j ∧ j < 61 ∧ ∀ t H1, H t = none → Ex H H1 → H1 t = some (.tup ((keyF (ns.getD 0 0) j).map V.int)) → Q (.ref t) H1
def DsR (H : Hp) (xs : List V) : Prop := ∀ x ∈ xs, ∃ (p : Addr) (a b : Int), x = .ref p ∧ H p = some (.tup [.int a, .int b]) ∧ 0 ≤ a ∧ 0 ≤ b ∧ b < 61
theorem DsR.ex {H H1 : Hp} {xs : List V} (h : DsR H xs) (e : Ex H H1) : DsR H1 xs := fun x hx => let ⟨p, a, b, h1, h2, h3⟩ := h x hx; ⟨p, a, b, h1, e _ _ h2, h3⟩
def spDe (K : PySem.W.Frag) : Sp := fun vs H Q _ => ∃ (a : Addr) (ns : List Int), vs = [.ref a] ∧ SqL K H a (ns.map V.int) ∧ ns.length ≤ 63 ∧ ∀ l xs H1, H l = none → Ex H H1 → H1 l = some (.lst xs) → xs.length ≤ 90 → DsR H1 xs → Q (.ref l) H1
theorem sv_cl {K : PySem.W.Frag} {H : Hp} {a : Addr} {ns : List Int} (h : SqL K H a (ns.map V.int)) (k : Nat) {z : Int} (hz : z = (k : Int)) : SpV (spCl K) ([.ref a, .int z] ++ []) H (.int (ns.getD k 0)) := fun H1 e Q q E => by
  subst hz
  exact ⟨a, ns, k, rfl, ex_l e h, q⟩
theorem pick90 {z : Int} (h0 : 0 ≤ z) (h : z < 4) : ∃ m : Nat, m ≤ 90 ∧ atI [V.int 8, .int 12, .int 20, .int 60] z = some (.int (m : Int)) := by
  obtain ⟨k, rfl⟩ : ∃ k : Nat, z = k := ⟨z.toNat, by omega⟩
  rcases (by omega : k = 0 ∨ k = 1 ∨ k = 2 ∨ k = 3) with rfl | rfl | rfl | rfl
  · exact ⟨8, by decide, rfl⟩
  · exact ⟨12, by decide, rfl⟩
  · exact ⟨20, by decide, rfl⟩
  · exact ⟨60, by decide, rfl⟩
theorem cut_to (xs : List V) (m : Nat) (hm : m ≤ 90) : (cutV xs none (some (m : Int))).length ≤ 90 ∧ ∀ x ∈ cutV xs none (some (m : Int)), x ∈ xs := by
  unfold cutV
  refine ⟨?_, fun x hx => List.mem_of_mem_drop (List.mem_of_mem_take hx)⟩
  rw [List.length_take, List.length_drop]
  unfold HT.sIx
  simp only [Option.getD_none]
  split <;> omega
section
variable {K : PySem.W.Frag} {σ : L2.St} {H : Hp} {r : R2} {ta tb : TE} {y z : V}
theorem ev_opU1 {xs : List V} (ha : EvU ta σ H xs) (hb : ∀ H1, Ex H H1 → Ev tb σ H1 y) (hr : ∀ p H1, H1 p = some (.tup xs) → Ex H H1 → RV r (.ref p) y H1 z) : Ev (tOp r ta tb) σ H z := fun H1 e Q q =>
  ha H1 e _ fun p H2 _ e2 hp => hb H2 (e.trans e2) H2 (Ex.refl H2) _ fun H3 e3 => hr p H3 (e3 p _ hp) ((e.trans e2).trans e3) H3 (Ex.refl H3) Q fun H4 e4 => q H4 ((e2.trans e3).trans e4)
end
section
variable {P : Program} {w : World} {K : PySem.W.Frag} {mg : Str → Option Value} {base : Heap} {aK : Addr}
theorem ok_cl {f : Addr} {fd : FuncData} (F : Fun K "_law_cell" "_law_cell" sCl f fd) (T : NN.Txt mg K aK) : FnOk P w K mg base CX0 1 f fd ["script", "k"] (spCl K) := by
  refine F.ok scCl (fun vs H Q E h => ?_) (fun cdv A outer s H vs Q E hr h => ?_)
  · obtain ⟨a, ns, k, rfl, _⟩ := h
    rfl
  · obtain ⟨a, ns, k, rfl, hS, q⟩ := h
    refine ⟨_, (pss_cons (ps_if (pt_cmpR op_lt (pv 1) (pe_callB call_len_seq (by rfl) T.len (by decide +kernel) (pa_cons (pv 0) pa_nil)) (nomark _)) (pss_one (ps_ret (pe_ix ix_list (pv 0) (pv 1) (fun _ _ => rfl)))) pss_nil)
      (pss_one (ps_ret pe_int))), ?_⟩
    refine q_when (et_test (ev_op (ev_var rfl) (ev_len (ev_var rfl) hS) rv_I0)) (fun hb H1 e1 => ?_) (fun hb H1 e1 => ?_)
    · have hk : k < ns.length := by
        have := of_decide_eq_true hb
        rw [List.length_map] at this
        omega
      refine s_ret (ev_op (ev_var rfl) (ev_var rfl) (rv_ixL (ex_l e1 hS) (v := .int (ns.getD k 0)) (atI_nat (by rw [List.getElem?_map, List.getElem?_eq_getElem hk, List.getD_eq_getElem?_getD, List.getElem?_eq_getElem hk]; rfl)))) fun H2 e2 => q H2 (e1.trans e2)
    · have hk : ns.length ≤ k := by
        have := of_decide_eq_false hb
        rw [List.length_map] at this
        omega
      rw [List.getD_eq_getElem?_getD, List.getElem?_eq_none hk] at q
      exact s_ret ev_c fun H2 e2 => q H2 (e1.trans e2)
theorem ok_ke {f f1 : Addr} {fd fd1 : FuncData} (F : Fun K "_law_key" "_law_key" sKe f fd) (FCl : Fun K "_law_cell" "_law_cell" sCl f1 fd1) (GCl : FnOk P w K mg base CX0 1 f1 fd1 ["script", "k"] (spCl K)) (bCl : Binds K fd1 ["script", "k"] []) (gCl : mg "_law_cell" = some (.ref f1)) : FnOk P w K mg base CX0 2 f fd ["script", "index"] (spKe K) := by
  refine F.ok (k := 1) scKe (fun vs H Q E h => ?_) (fun cdv A outer s H vs Q E hr h => ?_)
  · obtain ⟨a, ns, j, rfl, _⟩ := h
    rfl
  · obtain ⟨a, ns, j, rfl, hS, h0, h61, q⟩ := h
    refine ⟨_, (pss_cons (ps_set (i := 2) scKe.nd rfl (Or.inl rfl) (pe_op op_mod (pe_call GCl (hr.mono (by omega)) (by rfl) gCl FCl.kp bCl .nil pass0 (pa_cons (pv 0) (pa_cons pe_int pa_nil))) (pe_op op_pow pe_int pe_int)))
      (pss_cons (ps_set (i := 3) scKe.nd rfl (Or.inl rfl) (pe_tup (pa_cons pe_int (pa_cons pe_int (pa_cons pe_int (pa_cons pe_int pa_nil))))))
      (pss_cons (ps_set (i := 4) scKe.nd rfl (Or.inl rfl) (pe_op op_mul (pe_op op_fdiv (pv 1) pe_int) (pe_op op_add pe_int (pe_op op_mod (pe_op op_fdiv (pv 2) pe_int) (pe_op op_pow pe_int pe_int)))))
      (pss_one (ps_ret (pe_tup (pa_cons (pe_op op_add (pe_op op_add pe_int (pe_op op_mod (pv 1) pe_int)) (pe_op op_mod (pv 2) pe_int)) (pa_cons (pe_ix ix_tup (pv 3) (pe_op op_mod (pe_op op_fdiv (pv 1) pe_int) pe_int) (fun _ _ => rfl)) (pa_cons (pe_op op_add (pv 4) (pe_op op_fdiv (pv 2) (pe_op op_pow pe_int pe_int))) pa_nil))))))))), ?_⟩
    refine q_asg (ev_op (ev_call (ea_cons (ev_var rfl) (ea_cons ev_c ea_nil)) (sv_cl hS 0 rfl)) (ev_op ev_c ev_c (rv_I ⟨by decide, by decide, by decide⟩)) (rv_I (by show (0 : Int) < 10 ^ 25; decide))) fun H1 e1 => ?_
    refine q_asgU (eu_tup (ea_cons ev_c (ea_cons ev_c (ea_cons ev_c (ea_cons ev_c ea_nil)))) (Nat.le_of_ble_eq_true rfl)) fun kp H2 hkp e2 h2 => ?_
    refine q_asg (ev_op (ev_op (ev_var rfl) ev_c (rv_I ⟨by decide, by decide⟩)) (ev_op ev_c (ev_op (ev_op (ev_var rfl) ev_c (rv_I ⟨by decide, by decide⟩)) (ev_op ev_c ev_c (rv_I ⟨by decide, by decide, by decide⟩)) (rv_I (by show (0 : Int) < 10 ^ 6; decide))) rv_I0) (rv_I (.inl ⟨by omega, by omega⟩))) fun H3 e3 => ?_
    exact s_retU (eu_tup (ea_cons (ev_op (ev_op ev_c (ev_op (ev_var rfl) ev_c (rv_I (by show (0 : Int) < 3; decide))) rv_I0) (ev_op (ev_var rfl) ev_c (rv_I (by show (0 : Int) < 97; decide))) rv_I0) (ea_cons (ev_op (ev_var rfl) (ev_op (ev_op (ev_var rfl) ev_c (rv_I ⟨by decide, by decide⟩)) ev_c (rv_I (by show (0 : Int) < 4; decide))) (rv_ixT (st_of (e3 _ _ h2)) (kind_at (Int.emod_nonneg _ (by decide)) (Int.emod_lt_of_pos _ (by decide))))) (ea_cons (ev_op (ev_var rfl) (ev_op (ev_var rfl) (ev_op ev_c ev_c (rv_I ⟨by decide, by decide, by decide⟩)) (rv_I ⟨by decide, by decide⟩)) rv_I0) ea_nil))) (Nat.le_of_ble_eq_true rfl)) fun t H4 ht e4 h4 => q t H4 (fresh_back ((e1.trans e2).trans e3) ht) (((e1.trans e2).trans e3).trans e4) h4
theorem ok_de {f f1 : Addr} {fd fd1 : FuncData} (F : Fun K "_law_deeds" "_law_deeds" sDe f fd) (FCl : Fun K "_law_cell" "_law_cell" sCl f1 fd1) (GCl : FnOk P w K mg base CX0 1 f1 fd1 ["script", "k"] (spCl K)) (bCl : Binds K fd1 ["script", "k"] []) (gCl : mg "_law_cell" = some (.ref f1)) (T : NN.Txt mg K aK) : FnOk P w K mg base CX0 2 f fd ["script"] (spDe K) := by
  refine F.ok (k := 1) scDe (fun vs H Q E h => ?_) (fun cdv A outer s H vs Q E hr h => ?_)
  · obtain ⟨a, ns, rfl, _⟩ := h
    rfl
  · obtain ⟨a, ns, rfl, hS, h63, q⟩ := h
    refine ⟨_, (pss_cons (ps_set (i := 1) scDe.nd rfl (Or.inl rfl) (pe_lst pa_nil))
      (pss_cons (ps_for PassesOwn.never rfl (pi_list (pe_slice sl_list (pv 0) (po_some pe_int) (po_some pe_int))) (pg_name (i := 2) scDe.nd rfl (Or.inl rfl)) (pss_cons (ps_set (i := 3) scDe.nd rfl (Or.inl rfl) (pe_op op_mod (pv 2) (pe_op op_pow pe_int pe_int)))
      (pss_one (ps_for PassesOwn.never rfl (pi_range1 (by rfl) T.range (pa_cons pe_int pa_nil)) (pg_name (i := 4) scDe.nd rfl (Or.inl rfl)) (pss_one (ps_if (PW.pt (pw_or (pt_cmpR op_eq (pv 4) pe_int (nomark _)) (pw_or1 (pt_cmpR op_gt (pv 3) pe_int (nomark _))))) (pss_cons (ps_expr (pe_bm PySem.F.plainAttrs_list PySem.F.slot_list_append PySem.F.type_list_append mt_append (pv 1) (pa_cons (pe_tup (pa_cons (pe_op op_mod (pv 3) pe_int) (pa_cons (pe_op op_mod (pe_op op_fdiv (pv 3) pe_int) pe_int) pa_nil))) pa_nil)))
      (pss_one (ps_set (i := 3) scDe.nd rfl (Or.inl rfl) (pe_op op_fdiv (pv 3) pe_int)))) pss_nil))))))
      (pss_one (ps_ret (pe_slice sl_list (pv 1) po_none (po_some (pe_ix ix_tup (pe_tup (pa_cons pe_int (pa_cons pe_int (pa_cons pe_int (pa_cons pe_int pa_nil))))) (pe_op op_mod (pe_op op_fdiv (pe_call GCl (hr.mono (by omega)) (by rfl) gCl FCl.kp bCl .nil pass0 (pa_cons (pv 0) (pa_cons pe_int pa_nil))) pe_int) pe_int) (fun _ _ => rfl)))))))), ?_⟩
    refine q_asgL (xs := []) (el_lst ea_nil (Nat.le_of_ble_eq_true rfl)) fun l H1 hl e1 h1 => ?_
    have lcut : ∀ {i : Nat} {x : V}, (cutV (ns.map V.int) (some 1) (some 40))[i]? = some x → ∃ z, x = .int z := fun {i x} hx => by
      unfold cutV at hx
      have := List.mem_of_mem_drop (List.mem_of_mem_take (List.mem_of_getElem? hx))
      obtain ⟨z, _, rfl⟩ := List.mem_map.mp this
      exact ⟨z, rfl⟩
    have lle : (cutV (ns.map V.int) (some 1) (some 40)).length ≤ 63 := by
      unfold cutV
      rw [List.length_take, List.length_drop, List.length_map]
      omega
    refine q_forNLn (el_sl (ev_var rfl) (eo_some ev_c) (eo_some ev_c) (ex_l e1 hS)) (fun p i σ' B => ∃ xs y2 y3 y4, σ' = [some (.ref a), some (.ref l), y2, y3, y4] ∧ Ex H B ∧ B p = some (.lst (cutV (ns.map V.int) (some 1) (some 40))) ∧ p ≠ l ∧ B l = some (.lst xs) ∧ xs.length ≤ 9 * i ∧ DsR B xs) (fun p B hp e hx => ⟨[], none, none, none, rfl, e1.trans e, hx, (fun z => by rw [z, h1] at hp; cases hp), e _ _ h1, Nat.zero_le _, fun x hx => (by cases hx)⟩) (fun p i σ' B hi h => by
      obtain ⟨xs, y2, y3, y4, _, _, hx, _⟩ := h
      exact sq_of hx) ?_ ?_
    · rintro p i x σ' B hx ⟨xs, y2, y3, y4, rfl, eB, hp, hpl, hlB, hlen, hD⟩
      have hi : i < 63 := by
        have := (List.getElem?_eq_some_iff.mp hx).1
        omega
      obtain ⟨z, rfl⟩ := lcut hx
      refine q_asg (ev_op (ev_var rfl) (ev_op ev_c ev_c (rv_I ⟨by decide, by decide, by decide⟩)) (rv_I (by show (0 : Int) < 10 ^ 30; decide))) fun B1 b1 => ?_
      refine s_forR1 (n := 9) (ea_cons ev_c ea_nil) ⟨by decide, by decide⟩ (fun j σ' C => ∃ xs left y4, σ' = [some (.ref a), some (.ref l), some (.int z), some (.int left), y4] ∧ Ex H C ∧ C p = some (.lst (cutV (ns.map V.int) (some 1) (some 40))) ∧ C l = some (.lst xs) ∧ xs.length ≤ 9 * i + j ∧ DsR C xs) (fun C c => ⟨xs, _, y4, rfl, (eB.trans b1).trans c, (b1.trans c) _ _ hp, (b1.trans c) _ _ hlB, hlen, hD.ex (b1.trans c)⟩) ?_ ?_
      · rintro j σ' C hj ⟨xs, left, y4, rfl, eC, hpC, hlC, hlenC, hDC⟩
        refine s_when (et_or (et_test (ev_op (ev_var rfl) ev_c (rv_eq rfl))) (fun _ => et_test (ev_op (ev_var rfl) ev_c rv_I0))) (fun _ C1 c1 => ?_) (fun _ C1 c1 => ⟨xs, left, _, rfl, eC.trans c1, c1 _ _ hpC, c1 _ _ hlC, by omega, hDC.ex c1⟩)
        refine q_appU (ys := [.int (left % 5), .int (left / 5 % 61)]) (c1 _ _ hlC) (ev_var rfl) (eu_tup (ea_cons (ev_op (ev_var rfl) ev_c (rv_I (by show (0 : Int) < 5; decide))) (ea_cons (ev_op (ev_op (ev_var rfl) ev_c (rv_I ⟨by decide, by decide⟩)) ev_c (rv_I (by show (0 : Int) < 61; decide))) ea_nil)) (Nat.le_of_ble_eq_true rfl)) (by omega) fun u C2 hu c2 h2 => ?_
        refine s_asg (ev_op (ev_var rfl) ev_c (rv_I ⟨by decide, by decide⟩)) fun C3 c3 => ?_
        have hul : u ≠ l := fun z => by
          rw [z, c1 _ _ hlC] at hu
          cases hu
        have al : H l = none := fresh_back (Ex.refl _) hl
        have ne : ∀ {x : Addr} {o : HO}, H x = some o → x ≠ l := fun h z => by
          rw [z, hl] at h
          cases h
        have eX : ∀ {x : Addr} {ys : List V}, C2 x = some (.tup ys) → C3 x = some (.tup ys) := fun {x ys} h => by
          refine c3 _ _ ?_
          rw [upd_ne fun z => ?_]
          · exact h
          · rw [z, c2 _ _ (c1 _ _ hlC)] at h
            cases h
        refine ⟨xs ++ [.ref u], left / 305, _, rfl, fun x o hx => c3 _ _ (by rw [upd_ne (ne hx)]; exact c2 _ _ (c1 _ _ (eC _ _ hx))), c3 _ _ (by rw [upd_ne hpl]; exact c2 _ _ (c1 _ _ hpC)), c3 _ _ upd_same, by rw [List.length_append]; show xs.length + 1 ≤ _; omega, fun x hx => ?_⟩
        rcases List.mem_append.mp hx with hx | hx
        · obtain ⟨t, a, b, r1, r2, r3⟩ := hDC x hx
          exact ⟨t, a, b, r1, eX (c2 _ _ (c1 _ _ r2)), r3⟩
        · rw [List.mem_singleton.mp hx]
          exact ⟨u, _, _, rfl, eX h2, by omega, by omega, by omega⟩
      · rintro σ' C ⟨xs, left, y4, rfl, eC, hpC, hlC, hlenC, hDC⟩
        have hlenC : xs.length ≤ 9 * i + 9 := hlenC
        exact ⟨xs, _, _, _, rfl, eC, hpC, hpl, hlC, by omega, hDC⟩
    · rintro p σ' B ⟨xs, y2, y3, y4, rfl, eB, hp, hpl, hlB, hlen, hD⟩
      obtain ⟨m, hm, hat⟩ := pick90 (z := ns.getD 0 0 / 7 % 4) (by omega) (by omega)
      obtain ⟨hc1, hc2⟩ := cut_to xs m hm
      refine s_retL (xs := cutV xs none (some (m : Int))) (el_sl (ev_var rfl) eo_none (eo_some (ev_opU1 (eu_tup (ea_cons ev_c (ea_cons ev_c (ea_cons ev_c (ea_cons ev_c ea_nil)))) (Nat.le_of_ble_eq_true rfl)) (fun B1 b1 => ev_op (ev_op (ev_call (ea_cons (ev_var rfl) (ea_cons ev_c ea_nil)) (sv_cl (ex_l (eB.trans b1) hS) 0 rfl)) ev_c (rv_I ⟨by decide, by decide⟩)) ev_c (rv_I (by show (0 : Int) < 4; decide))) (fun t B1 ht b1 => rv_ixT (st_of ht) hat))) (sq_of hlB)) fun r B2 hr b2 h2 => ?_
      exact q r _ B2 (fresh_back eB hr) (eB.trans b2) h2 hc1 fun x hx => (hD.ex b2) x (hc2 x hx)
end

end NR

set_option Elab.async false
set_option linter.all false
set_option maxRecDepth 100000
set_option maxHeartbeats 4000000
namespace NR
open PySem PySem.Spec PyProof.Rows L2 Evl LK LT LG LS LQ LX LO LP LV StX SL
open ND (DK Dk St)
open NS (fr cv hv headV)
open NT (Cc Sk Sd ST Fm cont newB fre setM dropD TxT TxH tno)
open NN (R Rows asc most ptr Wf ptrs cntLt cntLe TEx)
/-! ### a new store -/
def cs0 (n : Nat) : List Int := List.replicate 5 1 ++ List.replicate (n - 5) 0
theorem cs0_len {n : Nat} (h : 5 ≤ n) : (cs0 n).length = n := by
  unfold cs0
  rw [List.length_append, List.length_replicate, List.length_replicate]
  omega
section
variable {σ : L2.St} {H : Hp} {D : Ends} {tz : TS}
/-- x = C(a new list) -/
theorem q_makeL {C : Addr} {sp : Sp} {te : TE} {xs : List V} {E : XK} {i : Nat} (h : EvL te σ H xs) (k : ∀ l p dx H1 H2, H l = none → Ex H H1 → H1 l = some (.lst xs) → H1 p = none → H2 p = some (.ins C dx []) → Ex H1 H2 → sp [.ref p, .ref l] H2 (fun v H3 => v = .non ∧ tz D (σ.set i (some (.ref p))) H3) E) : tSeq (tAsg (tMake C sp [] E (tCons te tNil)) (gName i)) tz D σ H :=
  h H (Ex.refl _) _ fun l H1 hl e1 h1 p dx hp hd hne => k l p dx H1 _ hl e1 h1 hp upd_same ((Ex.new hd).mut hp)
/-- x = T(D(e), H(e, a new tuple, e), e) -/
theorem q_mkS {CT CD CH : Addr} {spT spD spH : Sp} {E1 E2 E3 : XK} {t1 ta tt tn tu : TE} {v1 va vn vu : V} {xs : List V} {i : Nat} (h1 : Ev t1 σ H v1)
    (k : ∀ dp dd H1 H2, H1 dp = none → H2 dp = some (.ins CD dd []) → Ex H H1 → Ex H1 H2 → spD [.ref dp, v1] H2 (fun v B => v = .non ∧ ∃ B', B' = B ∧ Ev ta σ B va ∧ (∀ C, Ex B C → EvU tt σ C xs) ∧ (∀ C, Ex B C → Ev tn σ C vn) ∧ ∀ tb hp dh H3 H4, B tb = none → H3 tb = some (.tup xs) → Ex B H3 → H3 hp = none → H4 hp = some (.ins CH dh []) → Ex H3 H4 → spH [.ref hp, va, .ref tb, vn] H4 (fun v H5 => v = .non ∧ ∃ B2, B2 = H5 ∧ Ev tu σ H5 vu ∧ ∀ H6 q dq H7, Ex H5 H6 → H6 q = none → H7 q = some (.ins CT dq []) → Ex H6 H7 → spT [.ref q, .ref dp, .ref hp, vu] H7 (fun v H8 => v = .non ∧ tz D (σ.set i (some (.ref q))) H8) E1) E3) E2)
    (mD : ∀ {vs : List V} {A : Hp} {Q Q' : VK}, spD vs A Q E2 → (∀ v B, Q v B → Q' v B) → spD vs A Q' E2) (mH : ∀ {vs : List V} {A : Hp} {Q Q' : VK}, spH vs A Q E3 → (∀ v B, Q v B → Q' v B) → spH vs A Q' E3) :
    tSeq (tAsg (tMake CT spT [] E1 (tCons (tMake CD spD [] E2 (tCons t1 tNil)) (tCons (tMake CH spH [] E3 (tCons ta (tCons tt (tCons tn tNil)))) (tCons tu tNil)))) (gName i)) tz D σ H :=
  h1 H (Ex.refl _) _ fun H1 e1 dp dd hdp hdd hne => by
    have h := k dp dd H1 (upd (upd H1 dd (.own dp)) dp (.ins CD dd [])) hdp upd_same e1 ((Ex.new hdd).mut hdp)
    refine mD h fun v B hb => ?_
    obtain ⟨hv, _, _, ha, ht, hn, hk⟩ := hb
    refine ⟨hv, ha B (Ex.refl _) _ fun B1 b1 => ht B1 b1 B1 (Ex.refl _) _ fun tb B2 htb b2 htbx => hn B2 (b1.trans b2) B2 (Ex.refl _) _ fun B3 b3 hp dh hhp hdh hne2 => ?_⟩
    have g := hk tb hp dh B3 (upd (upd B3 dh (.own hp)) hp (.ins CH dh [])) (fresh_back b1 htb) (b3 _ _ htbx) ((b1.trans b2).trans b3) hhp upd_same ((Ex.new hdh).mut hhp)
    refine mH g fun v C hc => ?_
    obtain ⟨hv2, _, _, hu, hk2⟩ := hc
    refine ⟨hv2, hu C (Ex.refl _) _ fun C1 c1 q dq hq hdq hne3 => ?_⟩
    exact hk2 C1 q dq (upd (upd C1 dq (.own q)) q (.ins CT dq [])) c1 hq upd_same ((Ex.new hdq).mut hq)
end
theorem spHin_mono {c : Cc} {E : XK} {vs : List V} {A : Hp} {Q Q' : VK} (h : NT.spHin c vs A Q E) (m : ∀ v B, Q v B → Q' v B) : NT.spHin c vs A Q' E := by
  obtain ⟨p, tb, dx, g, n, h1, h2, h3⟩ := h
  exact ⟨p, tb, dx, g, n, h1, h2, fun H1 a b => m _ _ (h3 H1 a b)⟩
theorem spDin_mono {C : Addr} {E : XK} {vs : List V} {A : Hp} {Q Q' : VK} (h : ND.spInit C vs A Q E) (m : ∀ v B, Q v B → Q' v B) : ND.spInit C vs A Q' E := by
  obtain ⟨G, p, dx, n, h1, h2, h3, h4, h5, h6, h7⟩ := h
  exact ⟨G, p, dx, n, h1, h2, h3, h4, h5, h6, fun G' ka sa wa H1 a b c => m _ _ (h7 G' ka sa wa H1 a b c)⟩
theorem dk_joinX {C : Addr} {G H H1 : Hp} {p ka sa wa : Addr} {n : Nat} {d : Dk} (D : DK C G H p ka sa wa n d) (e : Ex H H1) (X : Addr → Prop) (hX : ∀ a, X a → H a = none) : ∃ G', St G H G' H1 ∧ DK C G' H1 p ka sa wa n d ∧ (∀ a o, H a = none → ¬ X a → H1 a = some o → G' a = some o) ∧ ∀ a, X a → G' a = none := by
  have ge := D.g.trans e
  have gg : Ex G (grow G H H1 X) := grow_ex
  obtain ⟨ap, ak, as, aw⟩ := D.al
  refine ⟨grow G H H1 X, ⟨gg, fun a h g => grow_no h g, fun a h z => h (fresh_back e z)⟩, ?_, fun a o h x h1 => grow_new (fresh_back D.g h) h x h1, fun a x => grow_X x (fresh_back D.g (hX a x))⟩
  exact ⟨grow_sub ge, grow_no ap D.gp, grow_no ak D.gk, grow_no as D.gs, grow_no aw D.gw, D.nks, D.nkw, D.nsw, let ⟨dx, h⟩ := D.o; ⟨dx, e _ _ h⟩, D.k.ex gg e, D.s.ex gg e, D.w.ex gg e, D.n0, D.n1, D.wl, D.ok, D.kz⟩
def spLst (c : Cc) : Sp := fun vs H Q _ => ∃ (n : Nat) (g : Int), vs = [.int (n : Int), .int g] ∧ 96 ≤ n ∧ n ≤ 256 ∧ ∀ G q k H1, Ex H G → ST c G H1 q k ⟨0, cs0 n, fun _ => none⟩ → k.n = n → k.g = g → k.hs = NS.pos (cs0 n) → Q (.ref q) H1
theorem ref_ne_int {cs : List Int} {ks : List Addr} (h : cs ≠ []) : HO.lst (cs.map V.int) ≠ HO.lst (ks.map V.ref) := fun z => by
  cases cs with
  | nil => exact h rfl
  | cons x cs => cases ks with
    | nil => cases z
    | cons y ks => cases z
section
variable {P : Program} {w : World} {K : PySem.W.Frag} {mg : Str → Option Value} {base : Heap} {c : Cc}
theorem ok_lst {f f1 f2 f3 f4 f5 : Addr} {fd fd1 fd2 fd3 fd4 fd5 : FuncData} (F : Fun K "_law_store" "_law_store" sLst f fd) (MD : L2.Mk K c.D f1) (Gdinit : FnOk P w K mg base (L2.CX P w) 3 f1 fd1 ["self", "blocks"] (ND.spInit c.D)) (bdinit : Binds K fd1 ["self", "blocks"] [])
    (MH : L2.Mk K c.H f2) (Ghinit : FnOk P w K mg base CX0 1 f2 fd2 ["self", "generation", "table", "blocks"] (NT.spHin c)) (bhinit : Binds K fd2 ["self", "generation", "table", "blocks"] []) (MS : L2.Mk K c.S f3) (Gsinit : FnOk P w K mg base CX0 1 f3 fd3 ["self", "uses"] (NS.spInit K c.S)) (bsinit : Binds K fd3 ["self", "uses"] [])
    (MT : L2.Mk K c.T f4) (Gtinit : FnOk P w K mg base CX0 1 f4 fd4 ["self", "disk", "head", "space"] (NT.spTin c)) (btinit : Binds K fd4 ["self", "disk", "head", "space"] []) (Guse_reserve : FnOk P w K mg base CX0 1 f5 fd5 ["self", "reserve"] (NT.spUr c)) (buse_reserve : Binds K fd5 ["self", "reserve"] []) (muse_reserve : Meth K c.T "use_reserve" f5)
    (TT : TxT mg K c.T) (TH : TxH mg K c.H) (TS : NS.Txt mg K c.S) (TD : ND.Txt mg K c.D) : FnOk P w K mg base CX0 6 f fd ["blocks", "generation"] (spLst c) := by
  refine F.ok (k := 5) scLst (fun vs H Q E h => ?_) (fun cdv A outer s H vs Q E hr h => ?_)
  · obtain ⟨n, g, rfl, _⟩ := h
    rfl
  · obtain ⟨n, g, rfl, h96, h256, qq⟩ := h
    refine ⟨_, (pss_cons (ps_set (i := 2) scLst.nd rfl (Or.inl rfl) (pe_make MS Gsinit (hr.mono (by omega)) (by rfl) TS.mgC bsinit .nil pass0 (pa_cons (pe_op op_cat (pe_op op_rep (pe_lst (pa_cons pe_int pa_nil)) pe_int) (pe_op op_rep (pe_lst (pa_cons pe_int pa_nil)) (pe_op op_sub (pv 0) pe_int))) pa_nil)))
      (pss_cons (ps_set (i := 3) scLst.nd rfl (Or.inl rfl) (pe_make MT Gtinit (hr.mono (by omega)) (by rfl) TT.mgC btinit .nil pass0 (pa_cons (pe_make MD Gdinit (hr.mono (by omega)) (by rfl) TD.mgC bdinit .nil passL (pa_cons (pv 0) pa_nil)) (pa_cons (pe_make MH Ghinit (hr.mono (by omega)) (by rfl) TH.mgC bhinit .nil pass0 (pa_cons (pv 1) (pa_cons (pe_tup (pa_cons pe_int (pa_cons pe_int pa_nil))) (pa_cons (pv 0) pa_nil)))) (pa_cons (pv 2) pa_nil)))))
      (pss_cons (ps_expr (pe_meth (pv 3) TT.cl muse_reserve Guse_reserve (hr.mono (by omega)) buse_reserve .nil pass0 (pa_cons pe_int pa_nil)))
      (pss_one (ps_ret (pv 3)))))), ?_⟩
    refine q_makeL (xs := (cs0 n).map V.int) (el_is (el_catL (el_rep1 (z := 5) (el_lst (ea_cons ev_c ea_nil) (Nat.le_of_ble_eq_true rfl)) ev_c (by decide) (by decide)) (el_rep1 (z := (n : Int) - 5) (el_lst (ea_cons ev_c ea_nil) (Nat.le_of_ble_eq_true rfl)) (ev_op (ev_var rfl) ev_c rv_I0) (by omega) (by omega)) (by rw [List.length_replicate, List.length_replicate]; show (5 : Int).toNat + ((n : Int) - 5).toNat ≤ 100000; omega)) (by
      unfold cs0
      rw [List.map_append, List.map_replicate, List.map_replicate, show ((n : Int) - 5).toNat = n - 5 by omega]
      rfl)) fun l sp ds H1 H2 hl e1 h1 hsp hspx e2 => ⟨sp, l, ds, cs0 n, rfl, hspx, sq_of (e2 _ _ h1), by rw [cs0_len (by omega)]; exact h256, fun cl hld H3 fr hcl0 hhl0 hch SS => ⟨rfl, ?_⟩⟩
    have e12 := e1.trans e2
    have nsp : ∀ {x : Addr} {o : HO}, H x = some o → x ≠ sp := fun h z => by
      rw [z, fresh_back e1 hsp] at h
      cases h
    have x03 : ∀ x o, H x = some o → x ≠ cl ∧ H3 x = some o := fun x o h => ⟨fun z => by
      have this := e12 _ _ h
      rw [z, hcl0] at this
      exact absurd this (fun z => by cases z), fr x o (e12 _ _ h) (nsp h)⟩
    have eG : Ex H (but cl H3) := fun x o h => by
      obtain ⟨a, b⟩ := x03 x o h
      rw [but_ne a]
      exact b
    obtain ⟨dS, hS3⟩ := SS.o
    rw [cs0_len (by omega)] at hS3
    have hspcl : sp ≠ cl := fun z => by
      rw [z, hcl0] at hspx
      cases hspx
    refine q_mkS (v1 := .int (n : Int)) (va := .int g) (vn := .int (n : Int)) (vu := .ref sp) (xs := [.int 5, .int 1]) (ev_var rfl) (fun dp dd H4 H5 hdp hdpx e4 e5 => ⟨but cl H3, dp, dd, n, rfl, ?_, ?_, hdpx, h96, h256, fun G2 ka sa wa H6 S6 fr6 D6 => ⟨rfl, H6, rfl, ev_var rfl, fun C c => eu_tup (ea_cons ev_c (ea_cons ev_c ea_nil)) (Nat.le_of_ble_eq_true rfl), fun C c => ev_var rfl, fun tb hp dh H7 H8 htb htbx e7 hhp hhpx e8 => ⟨hp, tb, dh, g, (n : Int), rfl, hhpx, fun H9 b9 hp9 => ⟨rfl, H9, rfl, ev_var rfl, fun H10 q dq H11 e10 hq hqx e11 => ?_⟩⟩⟩⟩) spDin_mono spHin_mono
    · intro x o hx
      have hx' : x ≠ cl := fun z => by
        rw [z] at hx
        have : but cl H3 cl = none := if_pos rfl
        rw [this] at hx
        cases hx
      rw [but_ne hx'] at hx
      exact e5 _ _ (e4 _ _ hx)
    · by_cases z : dp = cl
      · rw [z]
        exact if_pos rfl
      · rw [but_ne z]
        exact fresh_back e4 hdp
    · have hcl3 := SS.c
      have hcl6 : H6 cl = some (.lst ((cs0 n).map V.int)) := fr6 _ _ (e5 _ _ (e4 _ _ hcl3)) fun z => by
        have := e4 _ _ hcl3
        rw [z, hdp] at this
        cases this
      have gcl2 : G2 cl = none := S6.n cl (by rw [e5 _ _ (e4 _ _ hcl3)]; exact fun z => by cases z) (if_pos rfl)
      have gsp2 : G2 sp = some (.ins c.S dS (NS.flds (n : Int) cl hld)) := S6.g _ _ (by rw [but_ne hspcl]; exact hS3)
      have ghl2 : G2 hld = some (.lst ((NS.pos (cs0 n)).map V.bl)) := S6.g _ _ (by rw [but_ne fun z => hch z.symm]; exact SS.h)
      have hhp6 : H6 hp = none := fresh_back e7 hhp
      have x69 : Ex H6 H9 := b9.ex (e7.trans e8) hhp6
      have x610 := x69.trans e10
      have x611 := x610.trans e11
      have hq6 : H6 q = none := fresh_back x610 hq
      obtain ⟨G3, S7, D7, new7, no7⟩ := dk_joinX D6 x611 (fun x => x = q) (fun x hx => by rw [hx]; exact hq6)
      have hp10 := e10 _ _ hp9
      have ghp : G3 hp = some (.ins c.H dh (NT.hfl g tb (n : Int))) := new7 hp _ hhp6 (fun z => by rw [z, hq] at hp10; cases hp10) (e11 _ _ hp10)
      have gcl3 : G3 cl = none := S7.n cl (by rw [hcl6]; exact fun z => by cases z) gcl2
      obtain ⟨ap, ak, as, aw⟩ := D6.al
      have nof : ∀ {x : Addr}, H6 x = none → x ≠ dp ∧ x ≠ ka ∧ x ≠ sa ∧ x ≠ wa := fun h => ⟨fun z => ap (by rw [← z]; exact h), fun z => ak (by rw [← z]; exact h), fun z => as (by rw [← z]; exact h), fun z => aw (by rw [← z]; exact h)⟩
      have ne0 : cs0 n ≠ [] := fun z => by
        have := congrArg List.length z
        rw [cs0_len (by omega)] at this
        simp at this
        omega
      have clka : cl ≠ ka ∧ cl ≠ sa ∧ cl ≠ wa := by
        obtain ⟨k1, a1, _⟩ := D6.k
        obtain ⟨k2, a2, _⟩ := D6.s
        obtain ⟨k3, a3, _⟩ := D6.w
        exact ⟨fun z => ref_ne_int ne0 (Option.some.inj (by rw [← hcl6, z, a1])), fun z => ref_ne_int ne0 (Option.some.inj (by rw [← hcl6, z, a2])), fun z => ref_ne_int ne0 (Option.some.inj (by rw [← hcl6, z, a3]))⟩
      have cldp : cl ≠ dp := fun z => by
        have := e4 _ _ hcl3
        rw [z, hdp] at this
        cases this
      have qcl : q ≠ cl := fun z => by
        rw [z, hcl6] at hq6
        cases hq6
      refine ⟨G3, q, dq, ⟨dp, hp, sp, tb, dp, cl, hld, ka, sa, wa, g, NS.pos (cs0 n), _, n⟩, cs0 n, rfl, hqx, ⟨D7, no7 q rfl, ⟨dh, ghp⟩, ⟨dS, S7.g _ _ gsp2⟩, x611 _ _ hcl6, gcl3, S7.g _ _ ghl2, cs0_len (by omega), by show (NS.pos (cs0 n)).length = n; unfold NS.pos; rw [List.length_map]; exact cs0_len (by omega), nof hq6, ⟨cldp, clka⟩, qcl⟩, fun m H12 fr12 T12 => ⟨rfl, ?_⟩⟩
      obtain ⟨dxq, hoq⟩ := T12.o
      refine q_m (ev_var rfl) hoq (tno (.inr (.inr (.inr (.inr (.inr (.inr (.inr (.inr (.inr (.inr (.inr (.inr rfl))))))))))))) (ea_cons ev_c ea_nil) fun B b => ⟨G3, q, _, _, 0, rfl, T12.ex b, fun B2 F2 T2 => ?_⟩
      exact s_ret (ev_var rfl) fun B3 b3 => qq G3 q _ B3 (eG.trans (S6.g.trans S7.g)) (T2.ex b3) rfl rfl rfl
end

end NR

set_option Elab.async false
set_option linter.all false
set_option maxRecDepth 100000
set_option maxHeartbeats 4000000
namespace NR
open PySem PySem.Spec PyProof.Rows L2 Evl LK LT LG LS LQ LX LO LP LV StX SL
open ND (DK Dk St)
open NS (fr cv hv headV)
open NT (Cc Sk Sd ST Fm cont newB fre setM dropD TxT TxH tno)
open NN (R Rows asc most ptr Wf ptrs cntLt cntLe TEx)
/-! ### the parts of a node's words -/
inductive PT (H : Hp) : List V → List R → Prop
  | nil : PT H [] []
  | cons {a : Addr} {xs : List V} {r : R} {rs : List R} (h : H a = some (.lst ((r.1 ++ r.2).map V.int))) (t : PT H xs rs) : PT H (.ref a :: xs) (r :: rs)
theorem PT.mono {H H1 : Hp} {xs : List V} {rs : List R} (h : PT H xs rs) (e : Ex H H1) : PT H1 xs rs := by
  induction h with
  | nil => exact .nil
  | cons h _ ih => exact .cons (e _ _ h) ih
theorem PT.len {H : Hp} {xs : List V} {rs : List R} (h : PT H xs rs) : xs.length = rs.length := by
  induction h with
  | nil => rfl
  | cons _ _ ih => rw [List.length_cons, List.length_cons, ih]
theorem PT.of {H : Hp} : ∀ {xs : List V} {rs : List R}, xs.length = rs.length → (∀ (i : Nat) (y : V), xs[i]? = some y → ∃ (a : Addr) (r : R), y = V.ref a ∧ rs[i]? = some r ∧ H a = some (.lst ((r.1 ++ r.2).map V.int))) → PT H xs rs
  | [], [], _, _ => .nil
  | [], _ :: _, h, _ => by cases h
  | _ :: _, [], h, _ => by cases h
  | x :: xs, r :: rs, h, g => by
    obtain ⟨a, r', e1, e2, e3⟩ := g 0 x rfl
    cases e2
    rw [e1]
    exact .cons e3 (PT.of (Nat.succ.inj h) fun i y hy => g (i + 1) y hy)
theorem PT.at {H : Hp} {xs : List V} {rs : List R} (h : PT H xs rs) : ∀ {i : Nat} {x : V}, xs[i]? = some x → ∃ (a : Addr) (r : R), x = V.ref a ∧ rs[i]? = some r ∧ H a = some (.lst ((r.1 ++ r.2).map V.int)) := by
  induction h with
  | nil => intro i x hx; cases hx
  | cons h _ ih =>
    intro i x hx
    cases i with
    | zero => cases hx; exact ⟨_, _, rfl, rfl, h⟩
    | succ i => exact ih hx
/-- these are the words of a node with these items -/
structure Wd (kd : Int) (rs : List R) (ws : List Int) : Prop where
  hk : kd = 1 ∨ kd = 2
  wf : Wf kd rs
  m : (rs.length : Int) ≤ most kd
  c : ∃ n b, ws = NN.blk kd rs n b
theorem u65 {k : Nat} {A : Around} (r : Room k A) : A.units + 65 < cLine := by
  have := r.un
  omega
theorem ev_opL1 {K : PySem.W.Frag} {σ : L2.St} {H : Hp} {r : R2} {ta tb : TE} {y z : V} {xs : List V} (ha : EvL ta σ H xs) (hb : ∀ H1, Ex H H1 → Ev tb σ H1 y) (hr : ∀ p H1, H1 p = some (.lst xs) → Ex H H1 → RV r (.ref p) y H1 z) : Ev (tOp r ta tb) σ H z := fun H1 e Q q =>
  ha H1 e _ fun p H2 _ e2 hp => hb H2 (e.trans e2) H2 (Ex.refl H2) _ fun H3 e3 => hr p H3 (e3 p _ hp) ((e.trans e2).trans e3) H3 (Ex.refl H3) Q fun H4 e4 => q H4 ((e2.trans e3).trans e4)
def spLp (K : PySem.W.Frag) : Sp := fun vs H Q _ => ∃ (u : Addr) (kd : Int) (rs : List R) (ws : List Int), vs = [.ref u] ∧ H u = some (.lst (ws.map V.int)) ∧ Wd kd rs ws ∧ ∀ p xs H1, H p = none → Ex H H1 → H1 p = some (.lst xs) → PT H1 xs rs → (∀ (i : Nat) (a : Addr), xs[i]? = some (.ref a) → H a = none) → Q (.ref p) H1
def PR (H0 : Hp) (rs : List R) : Rel := fun i _ y H => ∃ (a : Addr) (r : R), y = V.ref a ∧ rs[i]? = some r ∧ H a = some (.lst ((r.1 ++ r.2).map V.int)) ∧ H0 a = none
section
variable {P : Program} {w : World} {K : PySem.W.Frag} {mg : Str → Option Value} {base : Heap} {aK : Addr}
theorem ok_lp {f : Addr} {fd : FuncData} (F : Fun K "_law_parts" "_law_parts" sLp f fd) (T : NN.Txt mg K aK) : FnOk P w K mg base CX0 1 f fd ["words"] (spLp K) := by
  refine F.ok scLp (fun vs H Q E h => ?_) (fun cdv A outer s H vs Q E hr h => ?_)
  · obtain ⟨u, kd, rs, ws, rfl, _⟩ := h
    rfl
  · obtain ⟨u, kd, rs, ws, rfl, hu, hW, qq⟩ := h
    refine ⟨_, (pss_cons (ps_set (i := 1) scLp.nd rfl (Or.inr rfl) (pe_op op_sub pe_int (pe_op op_mul pe_int (pe_ix ix_list (pv 0) pe_int (fun _ _ => rfl)))))
      (pss_one (ps_ret (pe_lc (own := [("turn", 2)]) (g := gName 2) (tt := tYes) rfl scLp.nd (pi_range1 (by rfl) T.range (pa_cons (pe_ix ix_list (pv 0) pe_int (fun _ _ => rfl)) pa_nil)) (blkOk_by (own := [("turn", 2)]) (N := ["words", "size", "turn"]) (sc := defScope sLp) (by decide +kernel)) (fun _ _ _ _ _ => pg_name (i := 2) scLp.nd rfl (Or.inl rfl)) (fun _ _ _ _ _ => pts_nil) (fun _ _ _ _ _ => (pe_slice (r := rSlL K) sl_list (pv 0) (po_some (pe_op op_add pe_int (pe_op op_mul (pv 1) (pv 2)))) (po_some (pe_op op_add pe_int (pe_op op_mul (pv 1) (pe_op op_add (pv 2) pe_int)))))))))), ?_⟩
    obtain ⟨hk, wf, hm, n, b, rfl⟩ := hW
    have hlen := NN.blk_len (n := n) (b := b) hk wf hm
    have h0 : (NN.blk kd rs n b).map V.int = V.int kd :: V.int (rs.length : Int) :: V.int n :: V.int b :: (NN.body rs ++ List.replicate (28 - (NN.body rs).length) 0).map V.int := rfl
    obtain ⟨sz, hsz⟩ : ∃ sz : Nat, sz = 3 + NN.vsz kd := ⟨_, rfl⟩
    have hsz2 : (9 : Int) - 2 * kd = (sz : Int) := by
      rw [hsz]
      unfold NN.vsz
      rcases hk with rfl | rfl <;> rfl
    have hs7 : sz ≤ 7 := by
      rcases hk with rfl | rfl <;> omega
    have hm5 : rs.length ≤ 5 := by
      unfold most at hm
      split at hm <;> omega
    refine q_asg (v := .int (sz : Int)) (ev_is (ev_op ev_c (ev_op ev_c (ev_op (ev_var rfl) ev_c (rv_ixL (v := .int kd) (sq_of hu) (atI_nat (j := 0) rfl))) (rv_I (.inl ⟨by omega, by omega⟩))) rv_I0) (by rw [← hsz2])) fun H1 e1 => ?_
    refine er_ret (R := PR H rs) (er_R1 (n := (rs.length : Int)) (ea_cons (ev_op (ev_var rfl) ev_c (rv_ixL (v := .int (rs.length : Int)) (sq_of (e1 _ _ hu)) (atI_nat (j := 1) rfl))) ea_nil) ⟨by omega, by omega⟩ (fun _ => rfl) (fun i xs y H H' e h => ?_) (fun i D H2 hD e2 hDn hi xs _ _ Q q => ?_)) (fun p xs H2 hp e2 h2 hl hx => ?_)
    · obtain ⟨a, r, x1, x2, x3, x4⟩ := h
      exact ⟨a, r, x1, x2, e _ _ x3, x4⟩
    · have e12 := e1.trans e2
      have hil : i < rs.length := by omega
      have hr : rs[i]? = some rs[i] := List.getElem?_eq_getElem hil
      refine NN.el_is (el_sl (ev_var rfl) (eo_some (i := ((4 + i * sz : Nat) : Int)) (ev_is (ev_op ev_c (ev_op (ev_var rfl) (ev_var rfl) (rv_I (.inl ⟨by omega, by omega⟩))) rv_I0) (by push_cast; rw [Int.mul_comm]))) (eo_some (i := ((4 + i * sz + sz : Nat) : Int)) (ev_is (ev_op ev_c (ev_op (ev_var rfl) (ev_op (ev_var rfl) ev_c rv_I0) (rv_I (.inl ⟨by omega, by omega⟩))) rv_I0) (by push_cast; rw [Int.mul_add, Int.mul_comm, Int.mul_one, Int.add_assoc]))) (sq_of (e12 _ _ hu))) (ys := ((rs[i]).1 ++ (rs[i]).2).map V.int) ?_ H2 (Ex.refl _) _ fun a H3 ha e3 h3 => q _ _ e3 ⟨a, _, rfl, hr, ?_, fresh_back e12 ha⟩
      · have hle : 4 + i * sz + sz ≤ 32 := by
          have hb := NN.body_len wf
          rw [← hsz] at hb
          have : (i + 1) * sz ≤ rs.length * sz := Nat.mul_le_mul_right _ hil
          rw [Nat.succ_mul] at this
          unfold NN.blk at hlen
          simp only [List.length_cons, List.length_append, List.length_replicate] at hlen
          omega
        rw [cut_mid2 _ _ _ (by rw [List.length_map, hlen]; omega) (by rw [List.length_map, hlen]; omega), ← List.map_drop, ← List.map_take, show 4 + i * sz + sz - (4 + i * sz) = sz by omega, hsz, NN.row_words wf hr]
      · have haD : a ≠ D := fun z => hDn (by rw [← z]; exact ha)
        unfold but
        rw [if_neg haD]
        exact h3
    · refine qq p xs H2 (fresh_back e1 hp) (e1.trans e2) h2 (PT.of hl fun i y hy => ?_) fun i a ha => ?_
      · obtain ⟨a, r, x1, x2, x3, _⟩ := hx i y hy
        exact ⟨a, r, x1, x2, x3⟩
      · obtain ⟨a', r, x1, x2, x3, x4⟩ := hx i _ ha
        cases x1
        exact x4
/-- pointer, low: what leads to the node -/
def spLs : Sp := fun vs H Q _ => ∃ (u p l : Addr) (kd n b : Int) (rs : List R) (top : Bool) (lo : List Int), vs = [.ref u, .ref p, .bl top, .ref l] ∧ H u = some (.lst ((NN.blk kd rs n b).map V.int)) ∧ Wd kd rs (NN.blk kd rs n b) ∧ H p = some (.tup [.int n, .int b]) ∧ H l = some (.lst (lo.map V.int)) ∧ (top = false → 2 ≤ rs.length ∧ lo = k0 rs) ∧ (kd = 2 → 2 ≤ rs.length) ∧ RetV (.bl true) H Q
theorem ok_ls {f : Addr} {fd : FuncData} (F : Fun K "_law_sound" "_law_sound" sLs f fd) (T : NN.Txt mg K aK) : FnOk P w K mg base CX0 1 f fd ["words", "pointer", "top", "low"] (spLs) := by
  refine F.ok scLs (fun vs H Q E h => ?_) (fun cdv A outer s H vs Q E hr h => ?_)
  · obtain ⟨u, p, l, kd, n, b, rs, top, lo, rfl, _⟩ := h
    rfl
  · obtain ⟨u, p, l, kd, n, b, rs, top, lo, rfl, hu, hW, hp, hl, htop, h2, qq⟩ := h
    refine ⟨_, (pss_cons (ps_if (PW.pt (pw_or (pt_not (pt_val (pe_callB call_isi (by rfl) T.isinstance (by decide +kernel) (pa_cons (pv 0) (pa_cons (pe_bltn (v := .ty "list") (u := .type "list") (by rfl) T.list (by decide +kernel) rfl) pa_nil))))) (pw_or (pt_cmpR op_ne (pe_callB call_len_seq (by rfl) T.len (by decide +kernel) (pa_cons (pv 0) pa_nil)) pe_int (nomark _)) (pw_or1 (pt_cmpR op_notIn_seq (pe_ix ix_list (pv 0) pe_int (fun _ _ => rfl)) (pe_tup (pa_cons pe_int (pa_cons pe_int pa_nil))) rfl))))) (pss_one (ps_ret pe_bl)) pss_nil)
      (pss_cons (ps_if (PW.pt (pw_or (pt_cmpR (op_neD hr.units) (pe_tup (pa_cons (pe_ix ix_list (pv 0) pe_int (fun _ _ => rfl)) (pa_cons (pe_ix ix_list (pv 0) pe_int (fun _ _ => rfl)) pa_nil))) (pv 1) (nomark _)) (pw_or1 (pt_cmpR op_gt (pe_ix ix_list (pv 0) pe_int (fun _ _ => rfl)) (pe_op op_add pe_int (pe_ix ix_list (pv 0) pe_int (fun _ _ => rfl))) (nomark _))))) (pss_one (ps_ret pe_bl)) pss_nil)
      (pss_cons (ps_if (PW.pt (pw_and (pt_cmpR op_lt (pe_ix ix_list (pv 0) pe_int (fun _ _ => rfl)) pe_int (nomark _)) (pw_and1 (PW.pt (pw_or (pt_cmpR op_eq (pe_ix ix_list (pv 0) pe_int (fun _ _ => rfl)) pe_int (nomark _)) (pw_or1 (pt_not (pt_val (pv 2))))))))) (pss_one (ps_ret pe_bl)) pss_nil)
      (pss_one (ps_ret (pe_or (pv 2) (pe_one (pe_cmpR (op_eqD hr.units) (pe_slice sl_list (pv 0) (po_some pe_int) (po_some pe_int)) (pv 3) (nomark _))))))))), ?_⟩
    obtain ⟨hk, wf, hm, _⟩ := hW
    have hlen := NN.blk_len (n := n) (b := b) hk wf hm
    have h32 : (((NN.blk kd rs n b).map V.int).length : Int) = 32 := by
      rw [List.length_map, hlen]
      rfl
    have ix0 : ∀ {H1 : Hp}, Ex H H1 → RV (rIxL K) (.ref u) (.int 0) H1 (.int kd) := fun e => rv_ixL (sq_of (e _ _ hu)) (atI_nat (j := 0) rfl)
    have ix1 : ∀ {H1 : Hp}, Ex H H1 → RV (rIxL K) (.ref u) (.int 1) H1 (.int (rs.length : Int)) := fun e => rv_ixL (sq_of (e _ _ hu)) (atI_nat (j := 1) rfl)
    refine q_when (b := false) (et_is (et_or (et_not (et_B (ev_isi (ev_var rfl) ev_c (fun H1 e1 => .base (.lst (e1 _ _ hu))) (kit_ty rfl)))) (fun _ => et_or (et_test (ev_op (ev_lenL (ev_var rfl) hu) ev_c (rv_ne rfl))) (fun _ => et_test (ev_niU (ev_op (ev_var rfl) ev_c (ix0 (Ex.refl _))) (eu_tup (ea_cons ev_c (ea_cons ev_c ea_nil)) (Nat.le_of_ble_eq_true rfl)) rfl rfl)))) ?_) (fun h => by cases h) (fun _ H1 e1 => ?_)
    · rw [h32]
      rcases hk with rfl | rfl <;> rfl
    refine q_when (b := false) (et_is (et_or (et_test (ev_opU1 (xs := [.int n, .int b]) (eu_tup (ea_cons (ev_op (ev_var rfl) ev_c (rv_ixL (sq_of (e1 _ _ hu)) (atI_nat (j := 2) rfl))) (ea_cons (ev_op (ev_var rfl) ev_c (rv_ixL (sq_of (e1 _ _ hu)) (atI_nat (j := 3) rfl))) ea_nil)) (Nat.le_of_ble_eq_true rfl)) (fun _ _ => ev_var rfl) (fun t H2 ht e2 => rv_neD (dp_tupi (ns := [n, b]) (st_of ht)) (dp_tupi (st_of ((e1.trans e2) _ _ hp))) (sh_tup (sh_ints [n, b])) (by decide)))) (fun _ => et_test (ev_op (ev_op (ev_var rfl) ev_c (ix1 e1)) (ev_op ev_c (ev_op (ev_var rfl) ev_c (ix0 e1)) rv_I0) rv_I0))) ?_) (fun h => by cases h) (fun _ H2 e2 => ?_)
    · rw [decide_eq_false (by unfold most at hm; rcases hk with rfl | rfl <;> simp at hm <;> omega)]
      rfl
    have e02 := e1.trans e2
    refine q_when (b := false) (et_is (et_and (et_test (ev_op (ev_op (ev_var rfl) ev_c (ix1 e02)) ev_c rv_I0)) (fun _ => et_or (et_test (ev_op (ev_op (ev_var rfl) ev_c (ix0 e02)) ev_c (rv_eq rfl))) (fun _ => et_not (et_B (ev_var rfl))))) ?_) (fun h => by cases h) (fun _ H3 e3 => ?_)
    · by_cases hl2 : rs.length < 2
      · have hk1 : ¬ (V.int kd = V.int 2) := fun z => by
          have := h2 (V.int.inj z)
          omega
        have ht : top = true := by
          cases top with
          | true => rfl
          | false => have := (htop rfl).1; omega
        rw [decide_eq_false hk1, ht]
        exact Bool.and_false _
      · rw [decide_eq_false (by omega)]
        rfl
    have e03 := e02.trans e3
    refine s_ret (v := .bl true) (ev_is (ev_orV (b := true) (ev_var rfl) (fun ht => ?_)) (by rw [Bool.or_true])) fun H4 e4 => qq H4 (e03.trans e4)
    obtain ⟨hl2, hlo⟩ := htop ht
    obtain ⟨r, hr⟩ : ∃ r, rs[0]? = some r := ⟨_, List.getElem?_eq_getElem (by omega)⟩
    have hk0 : k0 rs = r.1 := by
      unfold k0 NN.key
      rw [List.getD_eq_getElem?_getD, hr]
      rfl
    have hrw := NN.row_words (n := n) (b := b) wf hr
    rw [Nat.zero_mul, Nat.add_zero] at hrw
    have hw3 : ((NN.blk kd rs n b).drop 4).take 3 = r.1 := by
      have h3 := (wf r (List.mem_of_getElem? hr)).1
      have : ((NN.blk kd rs n b).drop 4).take 3 = (((NN.blk kd rs n b).drop 4).take (3 + NN.vsz kd)).take 3 := by
        rw [List.take_take, Nat.min_eq_left (by omega)]
      rw [this, hrw, ← h3, List.take_left]
    refine ev_opL1 (K := K) (xs := r.1.map V.int) (NN.el_is (el_sl (ev_var rfl) (eo_some (i := ((4 : Nat) : Int)) ev_c) (eo_some (i := ((7 : Nat) : Int)) ev_c) (sq_of (e03 _ _ hu))) ?_) (fun _ _ => ev_var rfl) (fun t H4 ht4 e4 => rv_eqD (.lst (sq_of ht4) (dp_ints _)) (.lst (sq_of ((e03.trans e4) _ _ hl)) (by rw [hlo, hk0]; exact dp_ints _)) (sh_lst (sh_ints _)) (by decide))
    rw [cut_mid2 _ _ _ (by rw [List.length_map, hlen]; omega) (by rw [List.length_map, hlen]; omega), ← List.map_drop, ← List.map_take, hw3]
end

end NR

set_option Elab.async false
set_option linter.all false
set_option maxRecDepth 100000
set_option maxHeartbeats 4000000
namespace NR
open PySem PySem.Spec PyProof.Rows L2 Evl LK LT LG LS LQ LX LO LP LV StX SL
open ND (DK Dk St)
open NS (fr cv hv headV)
open NT (Cc Sk Sd ST Fm cont newB fre setM dropD TxT TxH tno)
open NN (R Rows asc most ptr Wf ptrs cntLt cntLe TEx)
/-! ### the walk over a tree -/
inductive LR2 {α : Type} (R : V → α → Prop) : List V → List α → Prop
  | nil : LR2 R [] []
  | cons {x : V} {xs : List V} {p : α} {ps : List α} (h : R x p) (t : LR2 R xs ps) : LR2 R (x :: xs) (p :: ps)
section
variable {α : Type} {R R' : V → α → Prop} {xs ys : List V} {ps qs : List α}
theorem LR2.imp (h : LR2 R xs ps) (m : ∀ x p, R x p → R' x p) : LR2 R' xs ps := by
  induction h with
  | nil => exact .nil
  | cons h _ ih => exact .cons (m _ _ h) ih
theorem LR2.app (h : LR2 R xs ps) (g : LR2 R ys qs) : LR2 R (xs ++ ys) (ps ++ qs) := by
  induction h with
  | nil => exact g
  | cons h _ ih => exact .cons h ih
theorem LR2.len (h : LR2 R xs ps) : xs.length = ps.length := by
  induction h with
  | nil => rfl
  | cons _ _ ih => rw [List.length_cons, List.length_cons, ih]
theorem LR2.at (h : LR2 R xs ps) : ∀ {i : Nat} {x : V}, xs[i]? = some x → ∃ p, ps[i]? = some p ∧ R x p := by
  induction h with
  | nil => intro i x hx; cases hx
  | cons h _ ih =>
    intro i x hx
    cases i with
    | zero => cases hx; exact ⟨_, rfl, h⟩
    | succ i => exact ih hx
theorem LR2.of : ∀ {xs : List V} {ps : List α}, xs.length = ps.length → (∀ (i : Nat) (y : V), xs[i]? = some y → ∃ p, ps[i]? = some p ∧ R y p) → LR2 R xs ps
  | [], [], _, _ => .nil
  | [], _ :: _, h, _ => by cases h
  | _ :: _, [], h, _ => by cases h
  | x :: xs, r :: rs, h, g => by
    obtain ⟨r', e2, e3⟩ := g 0 x rfl
    cases e2
    exact .cons e3 (LR2.of (Nat.succ.inj h) fun i y hy => g (i + 1) y hy)
theorem LR2.snoc {p : α} (h : LR2 R xs (ps ++ [p])) : ∃ ys y, xs = ys ++ [y] ∧ LR2 R ys ps ∧ R y p := by
  induction ps generalizing xs with
  | nil =>
    cases h with
    | cons a t => cases t; exact ⟨[], _, rfl, .nil, a⟩
  | cons q ps ih =>
    cases h with
    | cons a t =>
      obtain ⟨ys, y, e, h1, h2⟩ := ih t
      exact ⟨_ :: ys, y, by rw [e]; rfl, .cons a h1, h2⟩
end
/-- the heap without three lists -/
def bt3 (s d l : Addr) (B : Hp) : Hp := fun a => if a = s ∨ a = d ∨ a = l then none else B a
section
variable {s d l l' a : Addr} {B B' : Hp} {o : HO}
theorem bt3_in (h : bt3 s d l B a = some o) : (a ≠ s ∧ a ≠ d ∧ a ≠ l) ∧ B a = some o := by
  unfold bt3 at h
  split at h
  · cases h
  · rename_i n
    exact ⟨⟨fun z => n (.inl z), fun z => n (.inr (.inl z)), fun z => n (.inr (.inr z))⟩, h⟩
theorem bt3_to (n : a ≠ s ∧ a ≠ d ∧ a ≠ l) (h : B a = some o) : bt3 s d l B a = some o := by
  unfold bt3
  rw [if_neg fun z => z.elim n.1 fun z => z.elim n.2.1 n.2.2]
  exact h
theorem bt3_ex : Ex (bt3 s d l B) B := fun a o h => (bt3_in h).2
theorem bt3_mono (e : Ex B B') : Ex (bt3 s d l B) (bt3 s d l B') := fun a o h => bt3_to (bt3_in h).1 (e _ _ (bt3_in h).2)
theorem bt3_new (e : Ex B B') (n : B l' = none) : Ex (bt3 s d l B) (bt3 s d l' B') := fun a o h => by
  obtain ⟨h1, h2⟩ := bt3_in h
  exact bt3_to ⟨h1.1, h1.2.1, fun z => by rw [z, n] at h2; cases h2⟩ (e _ _ h2)
theorem bt3_upd (h : a = s ∨ a = d ∨ a = l) : bt3 s d l (upd B a o) = bt3 s d l B := funext fun x => by
  unfold bt3
  by_cases hx : x = s ∨ x = d ∨ x = l
  · rw [if_pos hx, if_pos hx]
  · rw [if_neg hx, if_neg hx, upd_ne fun z => hx (by rw [z]; exact h)]
end
abbrev Ei := (h : Nat) × El (h + 1)
def lowE (g : Int) (h0 : Nat) (e : Ei) : List Int := if e.1 = h0 then [0, 0, 0] else k0 (e.2.2.map (lnk g e.1))
/-- one thing to do: a pointer, its depth, the least key that leads to it -/
def It (H : Hp) (g : Int) (h0 : Nat) (x : V) (e : Ei) : Prop := ∃ a p lo : Addr, x = .ref a ∧ H a = some (.tup [.ref p, .int ((h0 : Int) - e.1 + 1), .ref lo]) ∧ H p = some (.tup [.int (e.2.1 : Int), .int g]) ∧ H lo = some (.lst ((lowE g h0 e).map V.int))
theorem It.mono {H H' : Hp} {g : Int} {h0 : Nat} {x : V} {e : Ei} (e1 : Ex H H') (h : It H g h0 x e) : It H' g h0 x e := let ⟨a, p, lo, h1, h2, h3, h4⟩ := h; ⟨a, p, lo, h1, e1 _ _ h2, e1 _ _ h3, e1 _ _ h4⟩
def Kt (H : Hp) (x : V) (ks : List Int) : Prop := ∃ a : Addr, x = .ref a ∧ H a = some (.tup (ks.map V.int))
theorem Kt.mono {H H' : Hp} {x : V} {ks : List Int} (e1 : Ex H H') (h : Kt H x ks) : Kt H' x ks := let ⟨a, h1, h2⟩ := h; ⟨a, h1, e1 _ _ h2⟩
def ksE (e : Ei) : List (List Int) := (its (e.1 + 1) e.2).map (·.1)
def bsE (e : Ei) : List Nat := bks (e.1 + 1) e.2
/-- what is known of the nodes that are still to do -/
structure Go (k : Sk) (d : Sd) (h0 : Nat) (e : Ei) : Prop where
  tr : Tr k d e.1 e.2
  le : e.1 ≤ h0
  n : e.1 = 0 ∨ 2 ≤ e.2.2.length
  n2 : e.1 ≠ h0 → 2 ≤ e.2.2.length
structure Wh (c : Cc) (Pt Pf Pw : Addr) (G H0 B : Hp) (q : Addr) (k : Sk) (d : Sd) (h0 : Nat) (ll kl sl dl : Addr) (S : List Ei) (done : List Nat) (ks : List (List Int)) (m : Nat) : Prop where
  W : W3 c Pt Pf Pw G B q k d
  w0 : ST c G H0 q k d
  e0 : Ex H0 B
  l : ∃ xs, B ll = some (.lst xs) ∧ LR2 (It (bt3 sl dl ll B) (k.g + 1) h0) xs S
  kk : ∃ ws, bt3 sl dl ll B kl = some (.lst ws) ∧ LR2 (Kt (bt3 sl dl ll B)) ws ks
  ss : ∃ ys, B sl = some (.lst ys) ∧ PL (bt3 sl dl ll B) ys (pks k done)
  dd : B dl = some (.lst (List.replicate m (.int ((h0 : Int) + 1))))
  ne : sl ≠ dl ∧ sl ≠ ll ∧ dl ≠ ll
  f : H0 ll = none ∧ H0 sl = none ∧ H0 dl = none
structure Wp (k : Sk) (d : Sd) (h0 : Nat) (t : El (h0 + 1)) (i : Nat) (S : List Ei) (done : List Nat) (ks : List (List Int)) (m : Nat) : Prop where
  g : ∀ e ∈ S, Go k d h0 e
  bs : done ++ S.reverse.flatMap bsE = bks (h0 + 1) t
  ke : ks ++ S.reverse.flatMap ksE = (its (h0 + 1) t).map (·.1)
  di : done.length = i
  m0 : 1 ≤ m ∨ S ≠ []
  ml : m ≤ i
/-- an object that is none of the store's own -/
def AwI (c : Cc) (G : Hp) (q : Addr) (k : Sk) (a : Addr) : Prop := G a = none ∧ ∃ G0 H0 d0, ST c G0 H0 q k d0 ∧ H0 a = none
section
variable {c : Cc} {Pt Pf Pw : Addr} {G H0 H B B1 : Hp} {q a : Addr} {k : Sk} {d : Sd} {o o' : HO} {h0 m : Nat} {ll kl sl dl : Addr} {S : List Ei} {done : List Nat} {ks : List (List Int)}
theorem W3.upI (W : W3 c Pt Pf Pw G H q k d) (A : AwI c G q k a) (hd : H a = some o) (ht : ∀ φ, o ≠ .ext φ) : W3 c Pt Pf Pw G (upd H a o') q k d := by
  obtain ⟨G0, H0, d0, S0, h0⟩ := A.2
  have tb : ∀ {x : Addr}, Tab H x → Tab (upd H a o') x := fun {x} hx => by
    have hx' : H x = some (.ext _) := hx
    show upd H a _ x = _
    rw [upd_ne fun z => by rw [z, hd] at hx'; exact ht _ (Option.some.inj hx')]
    exact hx
  exact ⟨ST.up W.st S0 h0 A.1, W.r0, W.g0, tb W.t1, tb W.t2, tb W.t3⟩
theorem PL.ex {H H1 : Hp} {xs : List V} {ps : List (Nat × Int)} (h : PL H xs ps) (e : Ex H H1) : PL H1 xs ps := h.mono e
theorem Wh.ex (J : Wh c Pt Pf Pw G H0 B q k d h0 ll kl sl dl S done ks m) (e : Ex B B1) : Wh c Pt Pf Pw G H0 B1 q k d h0 ll kl sl dl S done ks m :=
  have x := bt3_mono (s := sl) (d := dl) (l := ll) e
  ⟨J.W.ex e, J.w0, J.e0.trans e, let ⟨xs, a, b⟩ := J.l; ⟨xs, e _ _ a, b.imp fun _ _ h => h.mono x⟩, let ⟨ws, a, b⟩ := J.kk; ⟨ws, x _ _ a, b.imp fun _ _ h => h.mono x⟩, let ⟨ys, a, b⟩ := J.ss; ⟨ys, e _ _ a, b.mono x⟩, e _ _ J.dd, J.ne, J.f⟩
theorem Wh.upd3 (J : Wh c Pt Pf Pw G H0 B q k d h0 ll kl sl dl S done ks m) (ha : a = sl ∨ a = dl ∨ a = ll) {xs : List V} : W3 c Pt Pf Pw G (upd B a (.lst xs)) q k d ∧ Ex H0 (upd B a (.lst xs)) ∧ bt3 sl dl ll (upd B a (.lst xs)) = bt3 sl dl ll B := by
  have h0a : H0 a = none := by
    rcases ha with rfl | rfl | rfl
    · exact J.f.2.1
    · exact J.f.2.2
    · exact J.f.1
  obtain ⟨zs, hz⟩ : ∃ zs, B a = some (.lst zs) := by
    rcases ha with rfl | rfl | rfl
    · obtain ⟨ys, h, _⟩ := J.ss; exact ⟨_, h⟩
    · exact ⟨_, J.dd⟩
    · obtain ⟨ys, h, _⟩ := J.l; exact ⟨_, h⟩
  exact ⟨J.W.upI ⟨fresh_back J.w0.dk.g h0a, G, H0, d, J.w0, h0a⟩ hz (fun φ z => by cases z), J.e0.mut h0a, bt3_upd ha⟩
theorem Wh.pop {e : Ei} {S' : List Ei} (J : Wh c Pt Pf Pw G H0 B q k d h0 ll kl sl dl (S' ++ [e]) done ks m) {xs : List V} (hx : LR2 (It (bt3 sl dl ll B) (k.g + 1) h0) xs S') : Wh c Pt Pf Pw G H0 (upd B ll (.lst xs)) q k d h0 ll kl sl dl S' done ks m := by
  obtain ⟨w, e1, e2⟩ := J.upd3 (a := ll) (xs := xs) (.inr (.inr rfl))
  obtain ⟨ys, s1, s2⟩ := J.ss
  exact ⟨w, J.w0, e1, ⟨xs, upd_same, by rw [e2]; exact hx⟩, by rw [e2]; exact J.kk, ⟨ys, by rw [upd_ne J.ne.2.1]; exact s1, by rw [e2]; exact s2⟩, by rw [upd_ne J.ne.2.2]; exact J.dd, J.ne, J.f⟩
theorem Wh.seen {n : Nat} {p : Addr} (J : Wh c Pt Pf Pw G H0 B q k d h0 ll kl sl dl S done ks m) {ys : List V} (hy : B sl = some (.lst ys)) (hP : PL (bt3 sl dl ll B) ys (pks k done)) (hp : bt3 sl dl ll B p = some (.tup [.int (n : Int), .int (k.g + 1)])) : Wh c Pt Pf Pw G H0 (upd B sl (.lst (ys ++ [.ref p]))) q k d h0 ll kl sl dl S (done ++ [n]) ks m := by
  obtain ⟨w, e1, e2⟩ := J.upd3 (a := sl) (xs := ys ++ [.ref p]) (.inl rfl)
  obtain ⟨xs, s1, s2⟩ := J.l
  refine ⟨w, J.w0, e1, ⟨xs, by rw [upd_ne J.ne.2.1.symm]; exact s1, by rw [e2]; exact s2⟩, by rw [e2]; exact J.kk, ⟨_, upd_same, ?_⟩, by rw [upd_ne J.ne.1.symm]; exact J.dd, J.ne, J.f⟩
  rw [e2]
  show PL _ _ ((done ++ [n]).map _)
  rw [List.map_append]
  exact hP.app (.cons hp .nil)
theorem Wh.deps (J : Wh c Pt Pf Pw G H0 B q k d h0 ll kl sl dl S done ks m) : Wh c Pt Pf Pw G H0 (upd B dl (.lst (List.replicate m (.int ((h0 : Int) + 1)) ++ [.int ((h0 : Int) + 1)]))) q k d h0 ll kl sl dl S done ks (m + 1) := by
  obtain ⟨w, e1, e2⟩ := J.upd3 (a := dl) (xs := List.replicate m (.int ((h0 : Int) + 1)) ++ [.int ((h0 : Int) + 1)]) (.inr (.inl rfl))
  obtain ⟨xs, s1, s2⟩ := J.l
  obtain ⟨ys, t1, t2⟩ := J.ss
  exact ⟨w, J.w0, e1, ⟨xs, by rw [upd_ne J.ne.2.2.symm]; exact s1, by rw [e2]; exact s2⟩, by rw [e2]; exact J.kk, ⟨ys, by rw [upd_ne J.ne.1]; exact t1, by rw [e2]; exact t2⟩, by rw [upd_same, List.replicate_succ'], J.ne, J.f⟩
theorem Wh.keys {kl' : Addr} {ks' : List (List Int)} (J : Wh c Pt Pf Pw G H0 B q k d h0 ll kl sl dl S done ks m) {ws : List V} (h : bt3 sl dl ll B kl' = some (.lst ws)) (hk : LR2 (Kt (bt3 sl dl ll B)) ws ks') : Wh c Pt Pf Pw G H0 B q k d h0 ll kl' sl dl S done ks' m := ⟨J.W, J.w0, J.e0, J.l, ⟨ws, h, hk⟩, J.ss, J.dd, J.ne, J.f⟩
theorem Wh.left {ll' : Addr} {S' : List Ei} (J : Wh c Pt Pf Pw G H0 B q k d h0 ll kl sl dl S done ks m) (e : Ex B B1) (n : B ll' = none) {xs : List V} (h : B1 ll' = some (.lst xs)) (hk : LR2 (It (bt3 sl dl ll' B1) (k.g + 1) h0) xs S') : Wh c Pt Pf Pw G H0 B1 q k d h0 ll' kl sl dl S' done ks m := by
  have x := bt3_new (s := sl) (d := dl) (l := ll) e n
  obtain ⟨ys, t1, t2⟩ := J.ss
  obtain ⟨ws, u1, u2⟩ := J.kk
  exact ⟨J.W.ex e, J.w0, J.e0.trans e, ⟨xs, h, hk⟩, ⟨ws, x _ _ u1, u2.imp fun _ _ h => h.mono x⟩, ⟨ys, e _ _ t1, t2.mono x⟩, e _ _ J.dd, ⟨J.ne.1, (fun z => by rw [← z, t1] at n; cases n), (fun z => by rw [← z, J.dd] at n; cases n)⟩, ⟨fresh_back J.e0 n, J.f.2⟩⟩
end
theorem q_first {K : PySem.W.Frag} {σ : L2.St} {H : Hp} {D : Ends} {tz : TS} {i : Nat} {t1 t2 t3 : TE} {v1 v2 : V} {xs : List V} (h1 : Ev t1 σ H v1) (h2 : Ev t2 σ H v2) (h3 : EvL t3 σ H xs) (k : ∀ lo a ll H1 H2 H3, H lo = none → Ex H H1 → H1 lo = some (.lst xs) → H1 a = none → H2 = upd H1 a (.tup [v1, v2, .ref lo]) → H2 ll = none → H3 = upd H2 ll (.lst [.ref a]) → tz D (σ.set i (some (.ref ll))) H3) : tSeq (tAsg (tLst (tCons (tTup (tCons t1 (tCons t2 (tCons t3 tNil)))) tNil)) (gName i)) tz D σ H :=
  h1 H (Ex.refl _) _ fun H1 e1 => h2 H1 e1 _ fun H2 e2 => h3 H2 (e1.trans e2) _ fun lo H3 hlo e3 glo => ⟨by show 3 ≤ sizeLine; decide, fun a ha => ⟨by show 1 ≤ sizeLine; decide, fun ll hll => k lo a ll H3 _ _ (fresh_back (e1.trans e2) hlo) ((e1.trans e2).trans e3) glo ha rfl hll rfl⟩⟩
def spLw (c : Cc) (Pt Pf Pw : Addr) : Sp := fun us H Q _ => ∃ (G : Hp) (q : Addr) (k : Sk) (d : Sd) (h : Nat) (t : El (h + 1)) (rt : Addr), us = [.ref q, .ref rt] ∧ W3 c Pt Pf Pw G H q k d ∧ Sok k d ∧ Ro1 k d h t ∧ H rt = some (.tup [.int (t.1 : Int), .int (k.g + 1)]) ∧ (bks (h + 1) t).length ≤ 99 ∧ (its (h + 1) t).length ≤ 1000 ∧
  ∀ (p la sa : Addr) (xs ys : List V) (H1 : Hp), H p = none → Ex H H1 → H1 p = some (.tup [.ref la, .ref sa, .int ((h : Int) + 1)]) → H1 la = some (.lst xs) → LR2 (Kt H1) xs ((its (h + 1) t).map (·.1)) → H1 sa = some (.lst ys) → PL H1 ys (pks k (bks (h + 1) t)) → Q (.ref p) H1

end NR

set_option Elab.async false
set_option linter.all false
set_option maxRecDepth 100000
set_option maxHeartbeats 4000000
namespace NR
open PySem PySem.Spec PyProof.Rows L2 Evl LK LT LG LS LQ LX LO LP LV StX SL
open ND (DK Dk St)
open NS (fr cv hv headV)
open NT (Cc Sk Sd ST Fm cont newB fre setM dropD TxT TxH tno)
open NN (R Rows asc most ptr Wf ptrs cntLt cntLe TEx)
section
variable {K : PySem.W.Frag} {σ : L2.St} {H : Hp} {D : Ends} {tz : TS} {t1 t2 tl : TE} {a : Addr}
theorem s_catR {i n : Nat} {R : Rel} {ys : List V} (ha : Ev t1 σ H (.ref a)) (hl : H a = some (.lst ys)) (hb : EvR t2 σ H n R) (hz : ys.length + n ≤ 100000) (k : ∀ L zs p H1, H L = none → Ex H H1 → H1 L = some (.lst zs) → zs.length = n → (∀ i y, zs[i]? = some y → R i (zs.take i) y H1) → H1 p = none → D.nx (σ.set i (some (.ref p))) (upd H1 p (.lst (ys ++ zs)))) : tAsg (tOp rCat t1 t2) (gName i) D σ H :=
  ha H (Ex.refl _) _ fun H1 e1 => hb H1 e1 _ fun L zs H2 hL e2 h2 hn hr => ⟨a, L, ys, zs, rfl, rfl, (e1.trans e2) _ _ hl, h2, sz_of (by rw [hn]; exact hz), fun p hp => k L zs p H2 (fresh_back e1 hL) (e1.trans e2) h2 hn hr hp⟩
/-- a, b, c = xs.pop() -/
theorem q_pop3 {i j l : Nat} {L : Addr} {xs : List V} {v1 v2 v3 : V} (h : Ev tl σ H (.ref L)) (hl : H L = some (.lst (xs ++ [.ref a]))) (ha : H a = some (.tup [v1, v2, v3])) (k : ∀ H1, Ex H H1 → tz D (((σ.set i (some v1)).set j (some v2)).set l (some v3)) (upd H1 L (.lst xs))) : tSeq (tAsg (tBM0 K "list" rPop tl) (gTup K 3 (gCons (gName i) (gCons (gName j) (gCons (gName l) gNil))))) tz D σ H :=
  h H (Ex.refl _) _ fun H1 e1 => ⟨Or.inl ⟨rfl, _, sq_of (e1 _ _ hl)⟩, L, _, .ref a, rfl, rfl, e1 _ _ hl, by
      rw [List.length_append, List.length_singleton, Nat.add_sub_cancel, List.getElem?_append_right (Nat.le_refl _), Nat.sub_self]
      rfl, a, [v1, v2, v3], rfl, st_of (by
        rw [upd_ne fun z => by rw [z, hl] at ha; cases ha]
        exact e1 _ _ ha), rfl, v1, [v2, v3], rfl, v2, [v3], rfl, v3, [], rfl, rfl, by
      rw [List.dropLast_concat]
      exact k H1 e1⟩
end
theorem er_NL {K : PySem.W.Frag} {σ : L2.St} {H : Hp} {R : Rel} {te tl : TE} {vs : List Nat} {j : Nat} {ys : List V} (h : EvL tl σ H ys) (hz : ys.length ≤ 40000) (hw : ∀ x, wipe ((wipe σ vs).set j (some x)) vs = wipe σ vs) (mon : Mon R)
    (he : ∀ (i : Nat) (x : V) D H1, H D = none → Ex H H1 → H1 D ≠ none → ys[i]? = some x → ∀ xs : List V, xs.length = i → (∀ j y, xs[j]? = some y → R j (xs.take j) y (but D H1)) → ∀ Q : VK, (∀ y H3, Ex H1 H3 → R i xs y (but D H3) → Q y H3) → te ((wipe σ vs).set j (some x)) H1 Q) :
    EvR (tLc (iList K tl) (gName j) tYes te vs) σ H ys.length R := fun H0 e Q q => h H0 e _ fun a H1 ha e1 h1 => ⟨a, rfl, ⟨ys, sq_of h1⟩, fun Dl hD =>
  lc_list (xs := ys) (Cr H1 R Dl) ⟨hD, Ex.new hD, [], upd_same, rfl, fun j y hy => by simp at hy⟩ (fun i H' _ p => sq_of (p.2.1 _ _ h1))
    (fun i x H' hi p => ⟨hw x, cr_turn mon p (by have := (List.getElem?_eq_some_iff.mp hi).1; omega) (fun h1 xs h2 h3 => he i x Dl H' (fresh_back (e.trans e1) hD) ((e.trans e1).trans p.2.1) h1 hi xs h2 h3)⟩)
    (fun H' ⟨p1, p2, xs, p3, p4, p5⟩ => q Dl xs H' (fresh_back e1 p1) (e1.trans p2) p3 p4 fun i y hy => mon _ _ _ _ _ but_ex (p5 i y hy))⟩
/-- ((a, b), c, xs) -/
theorem tup_in {σ : L2.St} {H : Hp} {t3 t4 t5 t6 : TE} {v3 v4 v5 : V} {xs : List V} {Q : VK} (h3 : Ev t3 σ H v3) (h4 : Ev t4 σ H v4) (h5 : Ev t5 σ H v5) (h6 : EvL t6 σ H xs) (k : ∀ a p lo H1, H a = none → H p = none → H lo = none → Ex H H1 → H1 a = some (.tup [.ref p, v5, .ref lo]) → H1 p = some (.tup [v3, v4]) → H1 lo = some (.lst xs) → Q (.ref a) H1) : tTup (tCons (tTup (tCons t3 (tCons t4 tNil))) (tCons t5 (tCons t6 tNil))) σ H Q :=
  h3 H (Ex.refl _) _ fun H1 e1 => h4 H1 e1 _ fun H2 e2 => ⟨by show 2 ≤ sizeLine; decide, fun p hp => h5 _ ((e1.trans e2).trans (Ex.new hp)) _ fun H3 e3 => h6 H3 (((e1.trans e2).trans (Ex.new hp)).trans e3) _ fun lo H4 hlo e4 glo => ⟨by show 3 ≤ sizeLine; decide, fun a ha => k a p lo _ (fresh_back ((((e1.trans e2).trans (Ex.new hp)).trans e3).trans e4) ha) (fresh_back (e1.trans e2) hp) (fresh_back (((e1.trans e2).trans (Ex.new hp)).trans e3) hlo) (((((e1.trans e2).trans (Ex.new hp)).trans e3).trans e4).trans (Ex.new ha)) upd_same ((Ex.new ha) _ _ (e4 _ _ (e3 _ _ upd_same))) ((Ex.new ha) _ _ glo)⟩⟩
def KR (rs : List R) : Rel := fun i _ y H => ∃ (a : Addr) (r : R), y = V.ref a ∧ rs[i]? = some r ∧ H a = some (.tup (r.1.map V.int))
def IR (B : Hp) (g : Int) (h0 : Nat) (es : List Ei) : Rel := fun i _ y H => ∃ (e : Ei) (a p lo : Addr), es[i]? = some e ∧ y = V.ref a ∧ H a = some (.tup [.ref p, .int ((h0 : Int) - e.1 + 1), .ref lo]) ∧ H p = some (.tup [.int (e.2.1 : Int), .int g]) ∧ H lo = some (.lst ((lowE g h0 e).map V.int)) ∧ B a = none ∧ B p = none ∧ B lo = none
theorem flat_len : ∀ S : List Ei, S.length ≤ (S.flatMap bsE).length
  | [] => Nat.le_refl _
  | e :: S => by
    have := flat_len S
    rw [List.flatMap_cons, List.length_append, List.length_cons]
    have : 1 ≤ (bsE e).length := Nat.succ_pos _
    omega
def dE (g : Int) (h0 : Nat) (e : Ei) : PyData := .tuple [.tuple [.int (e.2.1 : Int), .int g], .int ((h0 : Int) - e.1 + 1), .list ((lowE g h0 e).map PyData.int)]
def pD (p : Nat × Int) : PyData := .tuple [.int (p.1 : Int), .int p.2]
theorem dp_its {K : PySem.W.Frag} {H : Hp} {g : Int} {h0 : Nat} {xs : List V} {S : List Ei} (h : LR2 (It H g h0) xs S) : DpAll K H xs (S.map (dE g h0)) := by
  induction h with
  | nil => exact .nil
  | cons h _ ih =>
    obtain ⟨a, p, lo, rfl, h1, h2, h3⟩ := h
    exact .cons (.tup (st_of h1) (.cons (.tup (st_of h2) (.cons (.int _) (.cons (.int _) .nil))) (.cons (.int _) (.cons (.lst (sq_of h3) (dp_ints _)) .nil)))) ih
theorem sh_dE (g : Int) (h0 : Nat) (S : List Ei) : Sh 3 (.list (S.map (dE g h0))) := sh_lst fun d hd => by
  obtain ⟨e, _, rfl⟩ := List.mem_map.mp hd
  refine sh_tup fun d hd => ?_
  simp only [List.mem_cons, List.not_mem_nil, or_false] at hd
  rcases hd with rfl | rfl | rfl
  · exact sh_tup (sh_ints [_, _])
  · exact (sh_int _).up (by omega)
  · exact sh_lst (sh_ints _)
theorem eqv_nilL (ds : List PyData) : PyData.eqv (.list ds) (.list []) = ds.isEmpty := by
  cases ds with
  | nil => simp [PyData.eqv, PyData.eqvAll]
  | cons r A => simp [PyData.eqv, PyData.eqvAll]
theorem dp_pl {K : PySem.W.Frag} {H : Hp} {xs : List V} {ps : List (Nat × Int)} (h : PL H xs ps) : DpAll K H xs (ps.map pD) := by
  induction h with
  | nil => exact .nil
  | cons h _ ih => exact .cons (.tup (st_of h) (.cons (.int _) (.cons (.int _) .nil))) ih
theorem sh_pD (p : Nat × Int) : Sh 1 (pD p) := sh_tup (sh_ints [_, _])
theorem sh_pDs (ps : List (Nat × Int)) : Sh 2 (.list (ps.map pD)) := sh_lst fun d hd => by
  obtain ⟨e, _, rfl⟩ := List.mem_map.mp hd
  exact sh_pD e
theorem any_pD {k : Sk} {done : List Nat} {n : Nat} (h : n ∉ done) : ((pks k done).map pD).any (fun z => PyData.eqv z (pD (n, k.g + 1))) = false := by
  rw [List.any_eq_false]
  intro d hd
  obtain ⟨p, hp, rfl⟩ := List.mem_map.mp hd
  obtain ⟨x, hx, rfl⟩ := List.mem_map.mp hp
  have : ¬ (x : Int) = (n : Int) := fun z => h (by rw [← Int.ofNat.inj z]; exact hx)
  simp [pD, PyData.eqv, PyData.eqvAll, this]
theorem rv_inD {K : PySem.W.Frag} {H : Hp} {x y : V} {d : PyData} {ds : List PyData} {n m : Nat} (hx : Dp K H x d) (hy : Dp K H y (.list ds)) (s : Sh n d) (s' : Sh m (.list ds)) (hn : n ≤ 64) (hm : m ≤ 64) : RV (rInD K) x y H (.bl (ds.any fun z => PyData.eqv z d)) := rv_val fun H1 e Q q =>
  ⟨d, ds, dp_mono e d hx, dp_mono e _ hy, s.shaped hn, s'.shaped hm, q⟩
section
variable {P : Program} {w : World} {K : PySem.W.Frag} {mg : Str → Option Value} {base : Heap} {c : Cc} {Pt Pf Pw aK CN : Addr}
theorem ok_lw {f fR fU f1 f2 : Addr} {fd fdR fdU fd1 fd2 : FuncData} (F : Fun K "_law_walk" "_law_walk" sLw f fd) (Gread : FnOk P w K mg base (L2.CX P w) 5 fR fdR ["self", "pointer"] (NT.spRead c CN)) (bread : Binds K fdR ["self", "pointer"] []) (mread : Meth K c.T "read" fR)
    (Guses : FnOk P w K mg base (L2.CX P w) 4 fU fdU ["self", "pointer"] (NT.spUses c CN)) (buses : Binds K fdU ["self", "pointer"] []) (muses : Meth K c.T "uses" fU)
    (FLs : Fun K "_law_sound" "_law_sound" sLs f1 fd1) (GLs : FnOk P w K mg base CX0 1 f1 fd1 ["words", "pointer", "top", "low"] spLs) (bLs : Binds K fd1 ["words", "pointer", "top", "low"] []) (gLs : mg "_law_sound" = some (.ref f1))
    (FLp : Fun K "_law_parts" "_law_parts" sLp f2 fd2) (GLp : FnOk P w K mg base CX0 1 f2 fd2 ["words"] (spLp K)) (bLp : Binds K fd2 ["words"] []) (gLp : mg "_law_parts" = some (.ref f2)) (T : NN.Txt mg K aK) (TT : TxT mg K c.T) (tMin : mg "min" = none) : FnOk P w K mg base CX0 6 f fd ["store", "root"] (spLw c Pt Pf Pw) := by
  refine F.ok (k := 5) scLw (fun vs H Q E h => ?_) (fun cdv A outer s H vs Q E hr h => ?_)
  · obtain ⟨G, q, k, d, h, t, rt, rfl, _⟩ := h
    rfl
  · obtain ⟨G, q, k, d, h0, t, rt, rfl, W, so, T0, hrt, h99, hk, qq⟩ := h
    refine ⟨_, (pss_cons (ps_set (i := 2) scLw.nd rfl (Or.inl rfl) (pe_lst (pa_cons (pe_tup (pa_cons (pv 1) (pa_cons pe_int (pa_cons (pe_lst (pa_cons pe_int (pa_cons pe_int (pa_cons pe_int pa_nil)))) pa_nil)))) pa_nil)))
      (pss_cons (ps_set (i := 3) scLw.nd rfl (Or.inl rfl) (pe_lst pa_nil))
      (pss_cons (ps_set (i := 4) scLw.nd rfl (Or.inl rfl) (pe_lst pa_nil))
      (pss_cons (ps_set (i := 5) scLw.nd rfl (Or.inl rfl) (pe_lst pa_nil))
      (pss_cons (ps_for PassesOwn.never rfl (pi_range1 (by rfl) T.range (pa_cons pe_int pa_nil)) (pg_name (i := 6) scLw.nd rfl (Or.inl rfl)) (pss_cons (ps_if (pt_cmpR (op_eqD hr.units) (pv 2) (pe_lst pa_nil) (nomark _)) (pss_one ps_break) pss_nil)
      (pss_cons (ps_asg (pe_bm0 PySem.F.plainAttrs_list PySem.F.slot_list_pop PySem.F.type_list_pop mt_pop (pv 2)) (pg_tup (by rfl) (pgs_cons (pg_name (i := 7) scLw.nd rfl (Or.inl rfl)) (pgs_cons (pg_name (i := 8) scLw.nd rfl (Or.inr rfl)) (pgs_cons (pg_name (i := 9) scLw.nd rfl (Or.inl rfl)) pgs_nil)))))
      (pss_cons (ps_set (i := 10) scLw.nd rfl (Or.inl rfl) (pe_meth (pv 0) TT.cl mread Gread (hr.mono (by omega)) bread .nil passL (pa_cons (pv 7) pa_nil)))
      (pss_cons (ps_if (PW.pt (pw_or (pt_cmpR (op_inD (u65 hr)) (pv 7) (pv 4) rfl) (pw_or (pt_cmpR op_ne (pe_meth (pv 0) TT.cl muses Guses (hr.mono (by omega)) buses .nil passL (pa_cons (pv 7) pa_nil)) pe_int (nomark _)) (pw_or1 (pt_not (pt_val (pe_call GLs (hr.mono (by omega)) (by rfl) gLs FLs.kp bLs .nil pass0 (pa_cons (pv 10) (pa_cons (pv 7) (pa_cons (pe_cmpR op_eq (pv 8) pe_int (nomark _)) (pa_cons (pv 9) pa_nil))))))))))) (pss_one (ps_ret pe_non)) pss_nil)
      (pss_cons (ps_expr (pe_bm PySem.F.plainAttrs_list PySem.F.slot_list_append PySem.F.type_list_append mt_append (pv 4) (pa_cons (pv 7) pa_nil)))
      (pss_cons (ps_set (i := 11) scLw.nd rfl (Or.inl rfl) (pe_call GLp (hr.mono (by omega)) (by rfl) gLp FLp.kp bLp .nil pass0 (pa_cons (pv 10) pa_nil)))
      (pss_one (ps_if (pt_cmpR op_eq (pe_ix ix_list (pv 10) pe_int (fun _ _ => rfl)) pe_int (nomark _)) (pss_cons (ps_expr (pe_bm PySem.F.plainAttrs_list PySem.F.slot_list_append PySem.F.type_list_append mt_append (pv 5) (pa_cons (pv 8) pa_nil)))
      (pss_one (ps_set (i := 3) scLw.nd rfl (Or.inl rfl) (pe_op op_cat (pv 3) (pe_lc (own := [("part", 12)]) (g := gName 12) (tt := tYes) rfl scLw.nd (pi_list (pv 11)) (blkOk_by (own := [("part", 12)]) (N := ["store", "root", "left", "keys", "seen", "depths", "turn", "pointer", "depth", "low", "words", "parts", "part"]) (sc := defScope sLw) (by decide +kernel)) (fun _ _ _ _ _ => pg_name (i := 12) scLw.nd rfl (Or.inl rfl)) (fun _ _ _ _ _ => pts_nil) (fun _ _ _ _ _ => (pe_tup (pa_cons (pe_ix (r := rIxL K) ix_list (pv 12) pe_int (fun _ _ => rfl)) (pa_cons (pe_ix (r := rIxL K) ix_list (pv 12) pe_int (fun _ _ => rfl)) (pa_cons (pe_ix (r := rIxL K) ix_list (pv 12) pe_int (fun _ _ => rfl)) pa_nil)))))))))) (pss_one (ps_set (i := 2) scLw.nd rfl (Or.inl rfl) (pe_op op_cat (pv 2) (pe_lc (own := [("part", 12)]) (g := gName 12) (tt := tYes) rfl scLw.nd (pi_list (RS.pe_revSl (pv 11) (po_some (pe_un un_neg pe_int)))) (blkOk_by (own := [("part", 12)]) (N := ["store", "root", "left", "keys", "seen", "depths", "turn", "pointer", "depth", "low", "words", "parts", "part"]) (sc := defScope sLw) (by decide +kernel)) (fun _ _ _ _ _ => pg_name (i := 12) scLw.nd rfl (Or.inl rfl)) (fun _ _ _ _ _ => pts_nil) (fun _ _ _ _ _ => (pe_tup (pa_cons (pe_tup (pa_cons (pe_ix (r := rIxL K) ix_list (pv 12) pe_int (fun _ _ => rfl)) (pa_cons (pe_ix (r := rIxL K) ix_list (pv 12) pe_int (fun _ _ => rfl)) pa_nil))) (pa_cons (pe_op op_add (pv 8) pe_int) (pa_cons (pe_slice (r := rSlL K) sl_list (pv 12) po_none (po_some pe_int)) pa_nil))))))))))))))))))
      (pss_cons (ps_if (PW.pt (pw_or (pt_cmpR (op_neD hr.units) (pv 2) (pe_lst pa_nil) (nomark _)) (pw_or1 (pt_cmpR op_ne (pe_callB (cr_min rfl) (by rfl) tMin (by decide +kernel) (pa_cons (pv 5) pa_nil)) (pe_callB (cr_max rfl) (by rfl) T.max (by decide +kernel) (pa_cons (pv 5) pa_nil)) (nomark _))))) (pss_one (ps_ret pe_non)) pss_nil)
      (pss_one (ps_ret (pe_tup (pa_cons (pv 3) (pa_cons (pv 4) (pa_cons (pe_ix ix_list (pv 5) pe_int (fun _ _ => rfl)) pa_nil)))))))))))), ?_⟩
    refine q_first (K := K) (v1 := .ref rt) (v2 := .int 1) (xs := [.int 0, .int 0, .int 0]) (ev_var rfl) ev_c (el_lst (ea_cons ev_c (ea_cons ev_c (ea_cons ev_c ea_nil))) (Nat.le_of_ble_eq_true rfl)) fun lo a ll H3 H3' H4 hlo e03 glo ha hH3' hll hH4 => ?_
    have e34 : Ex H3 H4 := by
      rw [hH3'] at hH4 hll
      rw [hH4]
      exact (Ex.new ha).trans (Ex.new hll)
    have e04 := e03.trans e34
    have hal : a ≠ ll := fun z => by
      rw [← z, hH3', upd_same] at hll
      cases hll
    have ga : H4 a = some (.tup [.ref rt, .int 1, .ref lo]) := by
      rw [hH4, upd_ne hal, hH3']
      exact upd_same
    have gl : H4 ll = some (.lst [.ref a]) := by
      rw [hH4]
      exact upd_same
    have nll : H ll = none := fresh_back e03 (by rw [hH3'] at hll; exact fresh_back (Ex.new ha) hll)
    refine q_asgL (xs := []) (el_lst ea_nil (Nat.le_of_ble_eq_true rfl)) fun kl H5 hkl e5 gkl => ?_
    refine q_asgL (xs := []) (el_lst ea_nil (Nat.le_of_ble_eq_true rfl)) fun sl H6 hsl e6 gsl => ?_
    refine q_asgL (xs := []) (el_lst ea_nil (Nat.le_of_ble_eq_true rfl)) fun dl H7 hdl e7 gdl => ?_
    have e47 := (e5.trans e6).trans e7
    have e07 := e04.trans e47
    have no : ∀ {x y : Addr} {X : Hp} {o : HO}, X x = none → X y = some o → y ≠ x := fun h1 h2 z => by
      rw [z, h1] at h2
      cases h2
    have slH : H sl = none := fresh_back (e04.trans e5) hsl
    have dlH : H dl = none := fresh_back ((e04.trans e5).trans e6) hdl
    have b7 : ∀ {x : Addr} {o : HO}, H4 x = some o → x ≠ ll → bt3 sl dl ll H7 x = some o := fun {x o} h n => bt3_to ⟨no (fresh_back e5 hsl |> fun z => z) (h), no (fresh_back (e5.trans e6) hdl) h, n⟩ (e47 _ _ h)
    have J0 : Wh c Pt Pf Pw G H H7 q k d h0 ll kl sl dl [⟨h0, t⟩] [] [] 0 := {
      w0 := W.st
      W := W.ex e07
      e0 := e07
      l := ⟨_, e47 _ _ gl, .cons ⟨a, rt, lo, rfl, by
          show bt3 sl dl ll H7 a = some (.tup [.ref rt, .int ((h0 : Int) - (h0 : Int) + 1), .ref lo])
          rw [show (h0 : Int) - (h0 : Int) + 1 = 1 by omega]
          exact b7 ga hal, b7 (e04 _ _ hrt) (no nll hrt), by
          unfold lowE
          rw [if_pos rfl]
          exact b7 (e34 _ _ glo) (fun z => by
            have g1 := e34 _ _ glo
            rw [z, gl] at g1
            cases g1)⟩ .nil⟩
      kk := ⟨[], bt3_to ⟨no hsl (gkl), no hdl (e6 _ _ gkl), fun z => by
          rw [z, e5 _ _ gl] at gkl
          cases gkl⟩ (e7 _ _ (e6 _ _ gkl)), .nil⟩
      ss := ⟨[], e7 _ _ gsl, .nil⟩
      dd := gdl
      ne := ⟨no hdl gsl, (no hsl (e5 _ _ gl)).symm, (no hdl ((e5.trans e6) _ _ gl)).symm⟩
      f := ⟨nll, slH, dlH⟩ }
    have P0 : Wp k d h0 t 0 [⟨h0, t⟩] [] [] 0 := {
      g := fun e he => by
        cases List.mem_singleton.mp he
        exact ⟨T0.tr, Nat.le_refl _, T0.n, fun z => absurd rfl z⟩
      bs := by
        show [] ++ (bks (h0 + 1) t ++ []) = _
        rw [List.append_nil, List.nil_append]
      ke := by
        show [] ++ ((its (h0 + 1) t).map (·.1) ++ []) = _
        rw [List.append_nil, List.nil_append]
      di := rfl
      m0 := .inr (fun z => by cases z)
      ml := Nat.le_refl _ }
    refine q_forR1 (n := 100) (ea_cons ev_c ea_nil) ⟨by decide, by decide⟩ (fun i σ' B => ∃ (ll kl : Addr) (S : List Ei) (done : List Nat) (ks : List (List Int)) (m : Nat) (y6 y7 y8 y9 y10 y11 y12 : Option V), σ' = [some (.ref q), some (.ref rt), some (.ref ll), some (.ref kl), some (.ref sl), some (.ref dl), y6, y7, y8, y9, y10, y11, y12] ∧ Wh c Pt Pf Pw G H B q k d h0 ll kl sl dl S done ks m ∧ Wp k d h0 t i S done ks m) (fun B b => ⟨ll, kl, _, [], [], 0, _, _, _, _, _, _, _, rfl, J0.ex b, P0⟩) (fun i σ' B hi h => ?_) (fun σ' B h => ?_)
    · obtain ⟨ll, kl, S, done, ks, m, y6, y7, y8, y9, y10, y11, y12, rfl, J, p⟩ := h
      obtain ⟨xs, hx, hX⟩ := J.l
      have hdl : Dp K B (.ref ll) (.list (S.map (dE (k.g + 1) h0))) := .lst (sq_of hx) (dp_its (hX.imp fun _ _ h => h.mono bt3_ex))
      refine q_when (b := S.isEmpty) (et_is (et_test (ev_opL (ev_var rfl) (el_lst ea_nil (Nat.le_of_ble_eq_true rfl)) fun p H1 hp e => rv_eqDD (dp_mono e _ hdl) (.lst (sq_of hp) .nil) (sh_dE _ _ _) (sh_lst (n := 2) fun d hd => by cases hd) (by decide))) (by rw [eqv_nilL, List.isEmpty_map])) (fun hb B1 b1 => ?_) (fun hb B1 b1 => ?_)
      · have hS : S = [] := List.isEmpty_iff.mp hb
        subst hS
        have J1 := J.ex b1
        have m1 : 1 ≤ m := p.m0.resolve_right fun z => z rfl
        have e1 : done = bks (h0 + 1) t := by
          have := p.bs
          rw [List.reverse_nil, List.flatMap_nil, List.append_nil] at this
          exact this
        have e2 : ks = (its (h0 + 1) t).map (·.1) := by
          have := p.ke
          rw [List.reverse_nil, List.flatMap_nil, List.append_nil] at this
          exact this
        have hd1 : Dp K B1 (.ref ll) (.list []) := dp_mono b1 _ hdl
        have dds : B1 dl = some (.lst ((List.replicate m ((h0 : Int) + 1)).map V.int)) := by
          rw [List.map_replicate]
          exact J1.dd
        have hne : 0 < (List.replicate m ((h0 : Int) + 1)).length := by
          rw [List.length_replicate]
          omega
        show tSeq _ _ _ _ _
        refine q_when (b := false) (et_is (et_or (et_test (ev_opL (ev_var rfl) (el_lst ea_nil (Nat.le_of_ble_eq_true rfl)) fun p H1 hp e => rv_neDD (dp_mono e _ hd1) (.lst (sq_of hp) .nil) (sh_lst (n := 2) fun d hd => by cases hd) (sh_lst (n := 2) fun d hd => by cases hd) (by decide))) (fun _ => et_test (ev_op (ev_cb (z := .int ((h0 : Int) + 1)) (ea_cons (ev_var rfl) ea_nil) fun H1 e Q q => ⟨dl, _, rfl, sq_of (e _ _ dds), hne, fun x hx _ => by rw [List.eq_of_mem_replicate hx]; exact q H1 (Ex.refl _)⟩) (ev_cb (z := .int ((h0 : Int) + 1)) (ea_cons (ev_var rfl) ea_nil) fun H1 e Q q => ⟨dl, _, rfl, sq_of (e _ _ dds), hne, fun x hx _ => by rw [List.eq_of_mem_replicate hx]; exact q H1 (Ex.refl _)⟩) (rv_ne rfl)))) (by rw [eqv_nilL, decide_eq_true rfl]; rfl)) (fun h => by cases h) (fun _ B2 b2 => ?_)
        have J2 := J1.ex b2
        obtain ⟨ws, k1, k2⟩ := J2.kk
        obtain ⟨ys, s1, s2⟩ := J2.ss
        have x0 : (List.replicate m (V.int ((h0 : Int) + 1)))[0]? = some (.int ((h0 : Int) + 1)) := by
          rw [List.getElem?_replicate, if_pos (by omega)]
        refine s_retU (xs := [.ref kl, .ref sl, .int ((h0 : Int) + 1)]) (eu_tup (ea_cons (ev_var rfl) (ea_cons (ev_var rfl) (ea_cons (ev_op (ev_var rfl) ev_c (rv_ixL (sq_of J2.dd) (atI_nat (j := 0) x0))) ea_nil))) (Nat.le_of_ble_eq_true rfl)) fun p3 B3 hp3 b3 g3 => ?_
        exact qq p3 kl sl ws ys B3 (fresh_back J2.e0 hp3) (J2.e0.trans b3) g3 (b3 _ _ (bt3_ex _ _ k1)) (by rw [← e2]; exact k2.imp fun _ _ h => h.mono (bt3_ex.trans b3)) (b3 _ _ s1) (by rw [← e1]; exact s2.mono (bt3_ex.trans b3))
      · obtain ⟨S', e, rfl⟩ : ∃ S' e, S = S' ++ [e] := by
          have hS : S ≠ [] := fun z => by
            rw [z] at hb
            cases hb
          exact ⟨S.dropLast, S.getLast hS, (List.dropLast_concat_getLast hS).symm⟩
        obtain ⟨zs, y, rfl, hz, a1, p1, lo1, rfl, i1, i2, i3⟩ := hX.snoc
        have ge := p.g e (List.mem_append_right _ List.mem_cons_self)
        have hbs := p.bs
        have hke := p.ke
        rw [List.reverse_append, List.reverse_singleton, List.singleton_append, List.flatMap_cons] at hbs hke
        have J1 := J.ex b1
        refine q_pop3 (ev_var rfl) (b1 _ _ hx) (b1 _ _ (bt3_ex _ _ i1)) fun B2 b2 => ?_
        have b12 := b1.trans b2
        have J2 := (J1.ex b2).pop (hz.imp fun _ _ h => h.mono (bt3_mono b12))
        have i2 := bt3_mono (s := sl) (d := dl) (l := ll) b12 _ _ i2
        have i3 := bt3_mono (s := sl) (d := dl) (l := ll) b12 _ _ i3
        rw [← bt3_upd (a := ll) (o := .lst zs) (.inr (.inr rfl))] at i2 i3
        generalize upd B2 ll (.lst zs) = B3 at J2 i2 i3 ⊢
        have W3_ := J2.W
        have p3 := bt3_ex _ _ i2
        have l3 := bt3_ex _ _ i3
        obtain ⟨dx, ho⟩ := J2.W.st.o
        obtain ⟨hm0, _⟩ : d.mem e.2.1 = some (NN.blk (kdh e.1) (e.2.2.map (lnk (k.g + 1) e.1)) (e.2.1 : Int) (k.g + 1)) ∧ True := ⟨ge.tr.hd.1, trivial⟩
        have own := ge.tr.o.ok e.2.1 (by show e.2.1 ∈ e.2.1 :: _; exact List.mem_cons_self)
        have nd := ge.tr.nd so
        have hW : Wd (kdh e.1) (e.2.2.map (lnk (k.g + 1) e.1)) (NN.blk (kdh e.1) (e.2.2.map (lnk (k.g + 1) e.1)) (e.2.1 : Int) (k.g + 1)) := ⟨nd.hk, nd.wf, nd.m, _, _, rfl⟩
        refine q_mA (ev_var rfl) ho (tno (.inr (.inr (.inr (.inr (.inl rfl)))))) (ea_cons (ev_var rfl) ea_nil) fun B4 b4 => ⟨G, q, k, d, p1, (e.2.1 : Int), [.int (k.g + 1)], rfl, W3_.st.ex b4, b4 _ _ p3, fun i' hi' h5 hn w B5 hw b5 hwx => ?_, fun hno => absurd ⟨by have := own.1; omega, by have := own.2.1; omega⟩ hno⟩
        have hi2 : i' = e.2.1 := by omega
        subst hi2
        have hcont : cont k d e.2.1 = NN.blk (kdh e.1) (e.2.2.map (lnk (k.g + 1) e.1)) (e.2.1 : Int) (k.g + 1) := by
          unfold cont
          rw [hm0]
        rw [hcont] at hwx
        have b35 := b4.trans b5
        have J5 := J2.ex b35
        have p5 := b35 _ _ p3
        have l5 := b35 _ _ l3
        obtain ⟨ys, s1, s2⟩ := J5.ss
        have hnd : e.2.1 ∉ done := fun hz => by
          have hnd := T0.tr.o.nd
          rw [← hbs] at hnd
          exact (List.nodup_append.mp hnd).2.2 _ hz _ (List.mem_append_left _ (by show e.2.1 ∈ e.2.1 :: _; exact List.mem_cons_self)) rfl
        obtain ⟨dx5, ho5⟩ := J5.W.st.o
        refine q_when (b := false) (et_is (et_or (et_test (ev_op (ev_var rfl) (ev_var rfl) (rv_inD (d := pD (e.2.1, k.g + 1)) (.tup (st_of p5) (.cons (.int _) (.cons (.int _) .nil))) (.lst (sq_of s1) (dp_pl (s2.mono bt3_ex))) (sh_pD _) (sh_pDs _) (by decide) (by decide)))) (fun _ => et_or (et_test (ev_op (ev_meth (z := .int (cv d.cs e.2.1)) (ev_var rfl) ho5 (tno (.inr (.inr (.inr (.inr (.inr (.inr (.inr (.inr (.inr (.inl rfl)))))))))) ) (ea_cons (ev_var rfl) ea_nil) (fun H1 e1 Q' q' E' => ⟨G, q, k, d, p1, (e.2.1 : Int), [.int (k.g + 1)], rfl, J5.W.st.ex e1, e1 _ _ p5, fun j hj hjn => by
          have : j = e.2.1 := by omega
          rw [this]
          exact q', fun hno => absurd ⟨by omega, by have := own.2.1; omega⟩ hno⟩)) ev_c (rv_ne rfl))) (fun _ => et_not (et_B (ev_call (vs := [.ref w, .ref p1, .bl (decide (V.int ((h0 : Int) - e.1 + 1) = V.int 1)), .ref lo1]) (ea_cons (ev_var rfl) (ea_cons (ev_var rfl) (ea_cons (ev_op (ev_var rfl) ev_c (rv_eq rfl)) (ea_cons (ev_var rfl) ea_nil)))) (fun H1 e1 Q' q' E' => ⟨w, p1, lo1, kdh e.1, (e.2.1 : Int), k.g + 1, e.2.2.map (lnk (k.g + 1) e.1), _, lowE (k.g + 1) h0 e, rfl, e1 _ _ hwx, hW, e1 _ _ p5, e1 _ _ l5, ?_, ?_, q'⟩)))))) ?_) (fun h => by cases h) (fun _ B6 b6 => ?_)
        · intro hz
          have hne : e.1 ≠ h0 := fun z => by
            rw [z, Int.sub_self] at hz
            exact absurd (decide_eq_true (p := V.int (0 + 1) = V.int 1) rfl) (by rw [hz]; exact fun z => by cases z)
          refine ⟨by rw [List.length_map]; exact ge.n2 hne, ?_⟩
          unfold lowE
          rw [if_neg hne]
        · intro hz
          rw [List.length_map]
          refine ge.n.resolve_left fun z => ?_
          rw [z] at hz
          cases hz
        · rw [any_pD hnd, own.2.2.1]
          rfl
        have J6 := J5.ex b6
        have i6 := bt3_mono (s := sl) (d := dl) (l := ll) (b35.trans b6) _ _ i2
        obtain ⟨ys, s1, s2⟩ := J6.ss
        have w6 := b6 _ _ hwx
        have lys := s2.len
        have hdl : done.length ≤ 99 := by
          have h1 := congrArg List.length p.bs
          rw [List.length_append] at h1
          omega
        refine q_app s1 (ev_var rfl) (ev_var rfl) (by rw [lys, List.length_map]; omega) fun B7 b7 => ?_
        obtain ⟨ys7, t1, t2⟩ := (J6.ex b7).ss
        have hys : ys7 = ys := by
          rw [b7 _ _ s1] at t1
          cases t1
          rfl
        subst hys
        have J7 := (J6.ex b7).seen t1 t2 (n := e.2.1) (bt3_mono b7 _ _ i6)
        have hwx3 : w ≠ sl := (no hw ((J2.ex b4).ss.choose_spec.1)).symm
        have w7 : upd B7 sl (.lst (ys7 ++ [.ref p1])) w = some (.lst ((NN.blk (kdh e.1) (e.2.2.map (lnk (k.g + 1) e.1)) (e.2.1 : Int) (k.g + 1)).map V.int)) := by
          rw [upd_ne hwx3]
          exact b7 _ _ w6
        generalize upd B7 sl (.lst (ys7 ++ [.ref p1])) = B8 at J7 w7 ⊢
        refine q_run (vs := [.ref w]) (ea_cons (ev_var rfl) ea_nil) fun B9 b9 => ⟨w, _, _, _, rfl, b9 _ _ w7, hW, fun lp ps B10 hlp b10 glp hPT hPF => ?_⟩
        have b810 := b9.trans b10
        have J10 := J7.ex b810
        have w10 := b810 _ _ w7
        have hlen5 : (e.2.2.map (lnk (k.g + 1) e.1)).length ≤ 5 := nd.len
        have hkd : RV (rIxL K) (.ref w) (.int 0) B10 (.int (kdh e.1)) := rv_ixL (sq_of w10) (atI_nat (j := 0) rfl)
        refine s_if (et_test (ev_op (ev_op (ev_var rfl) ev_c hkd) ev_c (rv_eq rfl))) (fun hk1 B11 b11 => ?_) (fun hk1 B11 b11 => ?_)
        · obtain ⟨eh, eb, el⟩ := e
          have hk1 : kdh eh = 1 := V.int.inj (of_decide_eq_true hk1)
          have he0 : eh = 0 := by
            unfold kdh at hk1
            split at hk1
            · assumption
            · cases hk1
          subst he0
          have J11 := J10.ex b11
          have dlps : lp ≠ dl := no hlp (J7.ex b9).dd |> fun z => z.symm
          have PT11 := hPT.mono b11
          have glp11 := b11 _ _ glp
          refine q_app (v := .int ((h0 : Int) + 1)) J11.dd (ev_var rfl) (ev_is (ev_var rfl) (by
            show V.int ((h0 : Int) - ((0 : Nat) : Int) + 1) = _
            rw [show (h0 : Int) - ((0 : Nat) : Int) + 1 = (h0 : Int) + 1 by omega])) (by
            have := p.ml
            have := p.di
            rw [List.length_replicate]
            omega) fun B12 b12 => ?_
          have J12 := (J11.ex b12).deps
          have PT13 : ∀ (i : Nat) (x : V), ps[i]? = some x → ∃ (a : Addr) (r : R), x = V.ref a ∧ (el.map (lnk (k.g + 1) 0))[i]? = some r ∧ (upd B12 dl (.lst (List.replicate m (.int ((h0 : Int) + 1)) ++ [.int ((h0 : Int) + 1)]))) a = some (.lst ((r.1 ++ r.2).map V.int)) := fun i x hx => by
            obtain ⟨a, r, x1, x2, x3⟩ := PT11.at hx
            refine ⟨a, r, x1, x2, ?_⟩
            rw [upd_ne (no (hPF i a (by rw [← x1]; exact hx)) ((J7.ex b9).dd)).symm]
            exact b12 _ _ x3
          have glp13 : (upd B12 dl (.lst (List.replicate m (.int ((h0 : Int) + 1)) ++ [.int ((h0 : Int) + 1)]))) lp = some (.lst ps) := by
            rw [upd_ne dlps]
            exact b12 _ _ glp11
          generalize upd B12 dl (.lst (List.replicate m (.int ((h0 : Int) + 1)) ++ [.int ((h0 : Int) + 1)])) = B13 at J12 PT13 glp13 ⊢
          obtain ⟨ws, k1, k2⟩ := J12.kk
          have lws := k2.len
          have lps := hPT.len
          have hkl : ks.length ≤ 1000 := by
            have h1 := congrArg List.length p.ke
            rw [List.length_append, List.length_map] at h1
            omega
          refine s_catR (R := KR (el.map (lnk (k.g + 1) 0))) (ev_var rfl) (bt3_ex _ _ k1) (er_L (ev_var rfl) (sq_of glp13) (by omega) (fun _ => rfl) (fun i xs y H H' e h => ?_) (fun i x D H1 hD e1 hDn hi xs _ _ Q q => ?_)) (by omega) fun L zs2 p5 B14 hL b14 gL hlz hzr hp5 => ?_
          · obtain ⟨a, r, x1, x2, x3⟩ := h
            exact ⟨a, r, x1, x2, e _ _ x3⟩
          · obtain ⟨a, r, rfl, x2, x3⟩ := PT13 i x hi
            have hr3 := (nd.wf r (List.mem_of_getElem? x2)).1
            obtain ⟨z1, z2, z3, hrr⟩ : ∃ z1 z2 z3, r.1 = [z1, z2, z3] := by
              match hr : r.1, hr3 with
              | [z1, z2, z3], _ => exact ⟨z1, z2, z3, rfl⟩
            have x4 := e1 _ _ x3
            rw [hrr] at x4
            refine eu_tup (vs := [.int z1, .int z2, .int z3]) (ea_cons (ev_op (ev_var rfl) ev_c (rv_ixL (sq_of x4) (atI_nat (j := 0) rfl))) (ea_cons (ev_op (ev_var rfl) ev_c (rv_ixL (sq_of x4) (atI_nat (j := 1) rfl))) (ea_cons (ev_op (ev_var rfl) ev_c (rv_ixL (sq_of x4) (atI_nat (j := 2) rfl))) ea_nil))) (Nat.le_of_ble_eq_true rfl) H1 (Ex.refl _) _ fun p6 H2 hp6 e2 g6 => q _ _ e2 ⟨p6, r, rfl, x2, ?_⟩
            have hpD : p6 ≠ D := fun z => hDn (by rw [← z]; exact hp6)
            unfold but
            rw [if_neg hpD, hrr]
            exact g6
          · have J14 := J12.ex b14
            have hnew : Ex B14 (upd B14 p5 (.lst (ws ++ zs2))) := Ex.new hp5
            have J15 := J14.ex hnew
            have np : ∀ {x : Addr} {o : HO}, B14 x = some o → p5 ≠ x := fun h z => by
              rw [← z, hp5] at h
              cases h
            obtain ⟨ys8, t3, _⟩ := J14.ss
            obtain ⟨xs8, t4, _⟩ := J14.l
            obtain ⟨ws9, u1, u2⟩ := J15.kk
            have hws : ws9 = ws := by
              have h1 := bt3_ex _ _ u1
              rw [hnew _ _ (b14 _ _ (bt3_ex _ _ k1))] at h1
              cases h1
              rfl
            subst hws
            have tl : ∀ {x : Addr} {vs : List V}, B14 x = some (.tup vs) → bt3 sl dl ll (upd B14 p5 (.lst (ws9 ++ zs2))) x = some (.tup vs) := fun h => bt3_to ⟨(fun z => by
              rw [z, t3] at h
              cases h), (fun z => by
              rw [z, J14.dd] at h
              cases h), (fun z => by
              rw [z, t4] at h
              cases h)⟩ (hnew _ _ h)
            have hke0 : ksE ⟨0, (eb, el)⟩ = (el.map (lnk (k.g + 1) 0)).map (·.1) := by
              rw [lnk0]
              show (List.flatMap (its 0) el).map (·.1) = _
              rw [its0]
            have hbs0 : bsE ⟨0, (eb, el)⟩ = [eb] := by
              show eb :: el.flatMap (bks 0) = [eb]
              rw [show el.flatMap (bks 0) = [] from List.flatMap_eq_nil_iff.mpr fun _ _ => rfl]
            refine ⟨ll, p5, S', done ++ [eb], ks ++ (el.map (lnk (k.g + 1) 0)).map (·.1), m + 1, _, _, _, _, _, _, _, rfl, J15.keys (ws := ws9 ++ zs2) (bt3_to ⟨np t3, np J14.dd, np t4⟩ upd_same) (u2.app (LR2.of (by rw [hlz, lps, List.length_map (f := fun x : R => x.1)]) fun i y hy => ?_)), ⟨fun e' he' => p.g e' (List.mem_append_left _ he'), ?_, ?_, by rw [List.length_append, p.di]; rfl, .inl (by omega), by have := p.ml; omega⟩⟩
            · obtain ⟨a, r, x1, x2, x3⟩ := hzr i y hy
              exact ⟨r.1, by rw [List.getElem?_map, x2]; rfl, a, x1, tl x3⟩
            · rw [← hbs, hbs0, List.append_assoc]
            · rw [← hke, hke0, List.append_assoc]
        · obtain ⟨eh, eb, el⟩ := e
          have he0 : eh ≠ 0 := fun z => by
            subst z
            have : decide (V.int 1 = V.int 1) = false := hk1
            simp at this
          obtain ⟨h1, rfl⟩ : ∃ h1, eh = h1 + 1 := ⟨eh - 1, by omega⟩
          have J11 := J10.ex b11
          have PT11 : PT B11 ps (el.map (lnk (k.g + 1) (h1 + 1))) := hPT.mono b11
          have glp11 := b11 _ _ glp
          obtain ⟨xs8, x1, x2⟩ := J11.l
          have lps : ps.length = el.length := by rw [PT11.len, List.length_map]
          have lxs := x2.len
          obtain ⟨es, hes⟩ : ∃ es : List Ei, es = el.map fun c => ⟨h1, c⟩ := ⟨_, rfl⟩
          have les : es.length = el.length := by rw [hes, List.length_map]
          have lel : el.length ≤ 5 := by
            rw [List.length_map] at hlen5
            exact hlen5
          have hS1 : S'.length ≤ 99 := by
            have q1 := congrArg List.length p.bs
            have q2 := flat_len (S' ++ ([⟨h1 + 1, (eb, el)⟩] : List Ei)).reverse
            rw [List.length_reverse, List.length_append] at q2
            rw [List.length_append] at q1
            omega
          have wf' : ∀ r ∈ el.map (lnk (k.g + 1) (h1 + 1)), r.1.length = 3 := fun r hr => (nd.wf r hr).1
          refine s_catR (n := ps.reverse.length) (R := IR B11 (k.g + 1) h0 es.reverse) (ev_var rfl) x1 (er_NL (ys := ps.reverse) (RS.el_rev (ev_var rfl) (eo_some (ev_un ev_c ru_neg)) glp11) (by rw [List.length_reverse]; omega) (fun _ => rfl) (fun i xs y H H' e h => ?_) (fun i x D H1 hD e1 hDn hi xs _ _ Q q => ?_)) (by rw [List.length_reverse]; omega) fun L zs2 p5 B14 hL b14 gL hlz hzr hp5 => ?_
          · obtain ⟨e0, a, p, lo, y1, y2, y3, y4, y5, y6, y7, y8⟩ := h
            exact ⟨e0, a, p, lo, y1, y2, e _ _ y3, e _ _ y4, e _ _ y5, y6, y7, y8⟩
          · have hil := (List.getElem?_eq_some_iff.mp hi).1
            rw [List.length_reverse] at hil
            rw [List.getElem?_reverse hil] at hi
            obtain ⟨a, r, rfl, y2, y3⟩ := PT11.at hi
            have hr3 := wf' r (List.mem_of_getElem? y2)
            rw [List.getElem?_map, Option.map_eq_some_iff] at y2
            obtain ⟨ch, y2, rfl⟩ := y2
            have hei : es.reverse[i]? = some ⟨h1, ch⟩ := by
              rw [List.getElem?_reverse (by omega), les, ← lps, hes, List.getElem?_map, y2]
              rfl
            obtain ⟨z1, z2, z3, hrr⟩ : ∃ z1 z2 z3, k0 (ch.2.map (lnk (k.g + 1) h1)) = [z1, z2, z3] := by
              have hr3 : (k0 (ch.2.map (lnk (k.g + 1) h1))).length = 3 := hr3
              match hr : k0 (ch.2.map (lnk (k.g + 1) h1)), hr3 with
              | [z1, z2, z3], _ => exact ⟨z1, z2, z3, rfl⟩
            have y4 : H1 a = some (.lst [.int z1, .int z2, .int z3, .int (ch.1 : Int), .int (k.g + 1)]) := by
              rw [e1 _ _ y3]
              show some (HO.lst ((k0 (ch.2.map (lnk (k.g + 1) h1)) ++ [(ch.1 : Int), k.g + 1]).map V.int)) = _
              rw [hrr]
              rfl
            refine tup_in (v3 := .int (ch.1 : Int)) (v4 := .int (k.g + 1)) (v5 := .int ((h0 : Int) - (h1 : Int) + 1)) (xs := [.int z1, .int z2, .int z3]) (ev_op (ev_var rfl) ev_c (rv_ixL (sq_of y4) (atI_nat (j := 3) rfl))) (ev_op (ev_var rfl) ev_c (rv_ixL (sq_of y4) (atI_nat (j := 4) rfl))) (ev_is (ev_op (ev_var rfl) ev_c rv_I0) (by
              show V.int ((h0 : Int) - ((h1 + 1 : Nat) : Int) + 1 + 1) = _
              congr 1
              omega)) (NN.el_is (el_sl (ev_var rfl) eo_none (eo_some (i := 3) ev_c) (sq_of y4)) rfl) fun a2 p2 lo2 H2 na np nl e2 g1 g2 g3 => q _ _ e2 ⟨⟨h1, ch⟩, a2, p2, lo2, hei, rfl, ?_, ?_, ?_, fresh_back e1 na, fresh_back e1 np, fresh_back e1 nl⟩
            · unfold but
              rw [if_neg fun z => hDn (by rw [← z]; exact na)]
              exact g1
            · unfold but
              rw [if_neg fun z => hDn (by rw [← z]; exact np)]
              exact g2
            · unfold but
              rw [if_neg fun z => hDn (by rw [← z]; exact nl)]
              unfold lowE
              rw [if_neg (by have := ge.le; show h1 ≠ h0; have : h1 + 1 ≤ h0 := ge.le; omega), hrr]
              exact g3
          · have hp11 : B11 p5 = none := fresh_back b14 hp5
            have hnew : Ex B14 (upd B14 p5 (.lst (xs8 ++ zs2))) := Ex.new hp5
            obtain ⟨ys8, t3, _⟩ := J11.ss
            have nt : ∀ {x : Addr} {o : HO}, B11 x = none → B14 x = some o → bt3 sl dl p5 (upd B14 p5 (.lst (xs8 ++ zs2))) x = some o := fun h1 h2 => bt3_to ⟨(no h1 t3).symm, (no h1 J11.dd).symm, no hp5 h2⟩ (hnew _ _ h2)
            have hkids : ∀ e' ∈ es, Go k d h0 e' := fun e' he' => by
              rw [hes] at he'
              obtain ⟨ch, hch, rfl⟩ := List.mem_map.mp he'
              have o : OwnB k d (eb :: el.flatMap (bks (h1 + 1))) := ge.tr.o
              have o' : OwnB k d (el.flatMap (bks (h1 + 1))) := OwnB.right (B := [eb]) o
              obtain ⟨Tc, lc⟩ := ge.tr.child (c := ch) hch ⟨(List.pairwise_flatMap.mp o'.nd).1 ch hch, fun x hx => o'.ok x (List.mem_flatMap.mpr ⟨ch, hch, hx⟩)⟩
              exact ⟨Tc, by have : h1 + 1 ≤ h0 := ge.le; show h1 ≤ h0; omega, .inr lc, fun _ => lc⟩
            have hbs0 : bsE ⟨h1 + 1, (eb, el)⟩ = eb :: es.flatMap bsE := by
              rw [hes, List.flatMap_map]
              rfl
            have hke0 : ksE ⟨h1 + 1, (eb, el)⟩ = es.flatMap ksE := by
              rw [hes, List.flatMap_map]
              show (el.flatMap (its (h1 + 1))).map (·.1) = _
              rw [List.map_flatMap]
              rfl
            have hkn : es ≠ [] := fun z => by
              have h2 : 2 ≤ el.length := ge.n.resolve_left (fun z => by cases z)
              rw [z] at les
              simp at les
              omega
            refine ⟨p5, kl, S' ++ es.reverse, done ++ [eb], ks, m, _, _, _, _, _, _, _, rfl, J11.left (b14.trans hnew) hp11 upd_same ((x2.imp fun _ _ h => h.mono (bt3_new (b14.trans hnew) hp11)).app (LR2.of (by rw [hlz, List.length_reverse, List.length_reverse, lps, les]) fun i y hy => ?_)), ⟨fun e' he' => ?_, ?_, ?_, by rw [List.length_append, p.di]; rfl, .inr (fun z => hkn (List.reverse_eq_nil_iff.mp (List.append_eq_nil_iff.mp z).2)), by have := p.ml; omega⟩⟩
            · obtain ⟨e0, a, p, lo, y1, y2, y3, y4, y5, y6, y7, y8⟩ := hzr i y hy
              exact ⟨e0, y1, a, p, lo, y2, nt y6 y3, nt y7 y4, nt y8 y5⟩
            · rcases List.mem_append.mp he' with z | z
              · exact p.g e' (List.mem_append_left _ z)
              · exact hkids e' (List.mem_reverse.mp z)
            · rw [← hbs, hbs0, List.reverse_append, List.reverse_reverse, List.flatMap_append]
              simp
            · rw [← hke, hke0, List.reverse_append, List.reverse_reverse, List.flatMap_append]
    · obtain ⟨ll, kl, S, done, ks, m, _, _, _, _, _, _, _, _, _, p⟩ := h
      have h1 := congrArg List.length p.bs
      have h2 := p.di
      rw [List.length_append] at h1
      have : (100 : Int).toNat = 100 := rfl
      omega
end

end NR

set_option Elab.async false
set_option linter.all false
set_option maxRecDepth 100000
set_option maxHeartbeats 4000000
namespace NR
open PySem PySem.Spec PyProof.Rows L2 Evl LK LT LG LS LQ LX LO LP LV StX SL
open ND (DK Dk St)
open NS (fr cv hv headV)
open NT (Cc Sk Sd ST Fm cont newB fre setM dropD TxT TxH tno)
open NN (R Rows asc most ptr Wf ptrs cntLt cntLe TEx)
/-! ### keys in a list, sorted -/
def Uc (c : Int) : List (List Int) := (List.range 61).map fun j : Nat => keyF c (j : Int)
theorem Uc_len (c : Int) : (Uc c).length = 61 := by
  unfold Uc
  rw [List.length_map, List.length_range]
theorem key_mem (c : Int) {j : Int} (h0 : 0 ≤ j) (h : j < 61) : keyF c j ∈ Uc c := List.mem_map.mpr ⟨j.toNat, List.mem_range.mpr (by omega), by rw [Int.toNat_of_nonneg h0]⟩
theorem keys_ins {rs : List R} (a : Asc rs) (ks vs : List Int) : (get rs ks = none ∧ ((ins rs ks vs).map (·.1)).Perm (ks :: rs.map (·.1))) ∨ (get rs ks ≠ none ∧ (ins rs ks vs).map (·.1) = rs.map (·.1)) := by
  obtain ⟨A, C, h1, h2, e | ⟨v, e⟩, _⟩ := key_cases a ks
  · refine .inl ⟨e.2.1, ?_⟩
    rw [e.1, ins_ac h1 h2, List.map_append, List.map_cons, List.map_append]
    exact List.perm_middle
  · refine .inr ⟨(by rw [e.2.1]; exact fun z => by cases z), ?_⟩
    rw [e.1, ins_ac' h1 h2, List.map_append, List.map_cons, List.map_append, List.map_cons]
theorem get_iff {rs : List R} (a : Asc rs) (ks : List Int) : get rs ks ≠ none ↔ ks ∈ rs.map (·.1) := by
  obtain ⟨A, C, h1, h2, e | ⟨v, e⟩, _⟩ := key_cases a ks
  · refine ⟨fun z => absurd e.2.1 z, fun z => ?_⟩
    rw [e.1] at z
    obtain ⟨r, hr, hz⟩ := List.mem_map.mp z
    rcases List.mem_append.mp hr with q | q
    · exact absurd hz (klt_ne (h1 r q))
    · exact absurd hz.symm (klt_ne (h2 r q))
  · exact ⟨fun _ => by rw [e.1]; simp, fun _ => by rw [e.2.1]; exact fun z => by cases z⟩
theorem del_keys (rs : List R) (ks : List Int) : (del rs ks).map (·.1) = (rs.map (·.1)).filter fun k => !decide (k = ks) := by
  unfold del
  rw [List.filter_map]
  rfl
def kD (ks : List Int) : PyData := .tuple (ks.map PyData.int)
section
variable {K : PySem.W.Frag} {σ : L2.St} {H H1 : Hp} {te tl : TE} {tt : TT} {j : Nat} {ws : List Nat} {Q : VK} {D : Ends} {tz : TS} {t : TT}
theorem kt_tt (h : ∀ a xs, H a = some (.tup xs) → H1 a = some (.tup xs)) {xs : List V} {kl : List (List Int)} (g : LR2 (Kt H) xs kl) : LR2 (Kt H1) xs kl := g.imp fun _ _ ⟨a, e, x⟩ => ⟨a, e, h _ _ x⟩
theorem dp_kt {xs : List V} {kl : List (List Int)} (h : LR2 (Kt H) xs kl) : DpAll K H xs (kl.map kD) := by
  induction h with
  | nil => exact .nil
  | cons h _ ih =>
    obtain ⟨a, rfl, x⟩ := h
    exact .cons (dp_tupi (st_of x)) ih
theorem sh_kD (ks : List Int) : Sh 1 (kD ks) := sh_tup (sh_ints _)
theorem sh_kDs (kl : List (List Int)) : Sh 2 (.list (kl.map kD)) := sh_lst fun d hd => by
  obtain ⟨e, _, rfl⟩ := List.mem_map.mp hd
  exact sh_kD e
theorem any_kD (kl : List (List Int)) (ks : List Int) : (kl.map kD).any (fun z => PyData.eqv z (kD ks)) = decide (ks ∈ kl) := by
  induction kl with
  | nil => rfl
  | cons k kl ih =>
    rw [List.map_cons, List.any_cons, ih]
    unfold kD
    rw [eqvt_ints]
    by_cases h : k = ks
    · have m : ks ∈ k :: kl := by
        rw [h]
        exact List.mem_cons_self
      rw [decide_eq_true h, decide_eq_true m]
      rfl
    · rw [decide_eq_false h, Bool.false_or]
      refine decide_eq_decide.mpr ⟨List.mem_cons_of_mem _, fun z => (List.mem_cons.mp z).resolve_left fun q => h q.symm⟩
theorem rv_niD {x y : V} {d : PyData} {ds : List PyData} {n m : Nat} (hx : Dp K H x d) (hy : Dp K H y (.list ds)) (s : Sh n d) (s' : Sh m (.list ds)) (hn : n ≤ 64) (hm : m ≤ 64) : RV (rNotInD K) x y H (.bl (!ds.any fun z => PyData.eqv z d)) := rv_val fun H1 e Q q =>
  ⟨d, ds, dp_mono e d hx, dp_mono e _ hy, s.shaped hn, s'.shaped hm, q⟩
theorem kt_perm {kl' kl : List (List Int)} (p : kl'.Perm kl) : ∀ {xs : List V}, LR2 (Kt H) xs kl' → ∃ ys, LR2 (Kt H) ys kl ∧ (ys.zip (kl.map kD)).Perm (xs.zip (kl'.map kD)) := by
  induction p with
  | nil =>
    intro xs h
    cases h
    exact ⟨[], .nil, .nil⟩
  | cons r p ih =>
    intro xs h
    cases h with
    | cons a h =>
      obtain ⟨ys, h1, h2⟩ := ih h
      exact ⟨_ :: ys, .cons a h1, h2.cons _⟩
  | swap r s l =>
    intro xs h
    cases h with
    | cons a h =>
      cases h with
      | cons a' h => exact ⟨_ :: _ :: _, .cons a' (.cons a h), .swap _ _ _⟩
  | trans p1 p2 ih1 ih2 =>
    intro xs h
    obtain ⟨ys, h1, h2⟩ := ih1 h
    obtain ⟨zs, h3, h4⟩ := ih2 h1
    exact ⟨zs, h3, h4.trans h2⟩
theorem zip_pwK {rel : PyData → PyData → Prop} : ∀ {ys : List V} {kl : List (List Int)}, (kl.Pairwise fun a b => rel (kD a) (kD b)) → (ys.zip (kl.map kD)).Pairwise fun a b => rel a.2 b.2
  | [], _, _ => .nil
  | _ :: _, [], _ => .nil
  | y :: ys, r :: rs, h => by
    refine List.pairwise_cons.mpr ⟨fun b hb => ?_, zip_pwK (List.pairwise_cons.mp h).2⟩
    have := (List.of_mem_zip (show (b.1, b.2) ∈ ys.zip (rs.map kD) from hb)).2
    obtain ⟨r', hr', e⟩ := List.mem_map.mp this
    show rel (kD r) b.2
    rw [← e]
    exact (List.pairwise_cons.mp h).1 r' hr'
theorem zip_fst {α β : Type} : ∀ {ys : List α} {ds : List β}, ys.length = ds.length → (ys.zip ds).map (·.1) = ys
  | [], _, _ => rfl
  | _ :: _, [], h => by cases h
  | y :: ys, d :: ds, h => congrArg (y :: ·) (zip_fst (Nat.succ.inj h))
theorem sorted_keys {p : Addr} {xs : List V} {kl' kl : List (List Int)} (hp : H p = some (.lst xs)) (hR : LR2 (Kt H) xs kl') (pm : kl'.Perm kl) (a : kl.Pairwise klt) (l3 : ∀ k ∈ kl', k ≠ []) (qq : ∀ s ys, H s = none → LR2 (Kt (upd H s (.lst ys))) ys kl → Q (.ref s) (upd H s (.lst ys))) : LSD.rSortedDt K [.ref p] H Q := by
  obtain ⟨ys, h1, h2⟩ := kt_perm pm hR
  refine ⟨p, xs, kl'.map kD, rfl, sq_of hp, dp_kt hR, fun d hd d' hd' => ?_, .inl fun d hd => ?_, fun d hd => ?_, fun s hs => ?_⟩
  · obtain ⟨r, _, rfl⟩ := List.mem_map.mp hd
    obtain ⟨r', _, rfl⟩ := List.mem_map.mp hd'
    exact LSD.alike_ints r r'
  · obtain ⟨r, hr, rfl⟩ := List.mem_map.mp hd
    cases r with
    | nil => exact absurd rfl (l3 _ hr)
    | cons x r => exact ⟨_, _, rfl⟩
  · obtain ⟨r, _, rfl⟩ := List.mem_map.mp hd
    exact Nat.le_trans (sh_kD r).2 (by decide)
  · have ss := LSD.sort_is (bs := xs.zip (kl'.map kD)) h2 (zip_pwK (rel := fun x y => PySem.W.dataLt x y = true) (List.Pairwise.imp (fun {x y} hxy => (by unfold kD; rw [LSD.lt_ints]; exact decide_eq_true (LSD.lex_lt hxy))) a))
    rw [ss, zip_fst (by rw [List.length_map]; exact h1.len)]
    exact qq s ys hs (kt_tt (fun x zs hx => (Ex.new hs) _ _ hx) h1)
/-- [x for x in keys if ..] -/
theorem lc_kt {l : Addr} {xs : List V} {kl : List (List Int)} {f : List Int → Bool} (hl : H l = some (.lst xs)) (hR : LR2 (Kt H) xs kl) (hz : kl.length ≤ 1000) (h : Ev tl σ H (.ref l)) (hw : ∀ x, wipe ((wipe σ ws).set j (some x)) ws = wipe σ ws)
    (ht : ∀ B t k, Ex H B → B t = some (.tup ((k : List Int).map V.int)) → EvT tt ((wipe σ ws).set j (some (.ref t))) B (f k)) (hte : ∀ t B, Ev te ((wipe σ ws).set j (some (.ref t))) B (.ref t))
    (qq : ∀ p ys H1, H p = none → Ex H H1 → H1 p = some (.lst ys) → LR2 (Kt H1) ys (kl.filter f) → Q (.ref p) H1) : tLc (iList K tl) (gName j) tt te ws σ H Q :=
  h H (Ex.refl _) _ fun B e0 => ⟨l, rfl, ⟨_, sq_of (e0 _ _ hl)⟩, fun D hD => by
    have hD0 := fresh_back e0 hD
    refine lc_list (xs := xs) (fun m H' => Ex H H' ∧ ∃ ys, H' D = some (.lst ys) ∧ LR2 (Kt H') ys ((kl.take m).filter f)) ⟨e0.mut hD0, [], upd_same, .nil⟩ (fun m H' _ p => sq_of (p.1 _ _ hl)) (fun m x H2 hm p => ?_) (fun H' ⟨e1, ys, hy, hp⟩ => ?_)
    · obtain ⟨e1, ys, hy, hp⟩ := p
      obtain ⟨r, hr, t, rfl, s1⟩ := hR.at hm
      have htk : kl.take (m + 1) = kl.take m ++ [r] := by rw [List.take_add_one, hr]; rfl
      have hyl := hp.len
      have hfl := List.length_filter_le f (kl.take m)
      rw [List.length_take] at hfl
      refine ⟨hw _, ht H2 t r e1 (e1 _ _ s1) H2 (Ex.refl _) _ fun H3 e3 => ?_⟩
      have fs : (kl.take (m + 1)).filter f = (kl.take m).filter f ++ if f r = true then [r] else [] := by
        rw [htk, List.filter_append]
        congr 1
        by_cases hf : f r = true
        · rw [if_pos hf, List.filter_cons_of_pos hf]
          rfl
        · rw [if_neg hf, List.filter_cons_of_neg hf]
          rfl
      by_cases hf : f r = true
      · rw [if_pos hf]
        refine hte t H3 H3 (Ex.refl _) _ fun H4 e4 => ⟨ys, (e3.trans e4) _ _ hy, sz_lt (by omega), ?_⟩
        have e34 := e3.trans e4
        have tx : ∀ a xs, H2 a = some (.tup xs) → upd H4 D (.lst (ys ++ [.ref t])) a = some (.tup xs) := fun a xs h => by
          rw [upd_ne fun z => by rw [z, hy] at h; cases h]
          exact e34 _ _ h
        refine ⟨(e1.trans e34).mut hD0, ys ++ [.ref t], upd_same, ?_⟩
        rw [fs, if_pos hf]
        exact (kt_tt tx hp).app (.cons ⟨t, rfl, tx _ _ (e1 _ _ s1)⟩ .nil)
      · rw [if_neg hf]
        refine ⟨e1.trans e3, ys, e3 _ _ hy, ?_⟩
        rw [fs, if_neg hf, List.append_nil]
        exact hp.imp fun _ _ h => h.mono e3
    · rw [hR.len, List.take_length] at hp
      exact qq D ys H' hD0 e1 hy hp⟩
/-- if c: .. else: .., both meeting in J -/
theorem q_ifK {b : Bool} {t : TT} {tu tw : TS} (J : L2.St → Hp → Prop) (h : EvT t σ H b) (fin : ∀ σ' H', J σ' H' → tz D σ' H') (h1 : b = true → ∀ H1, Ex H H1 → (∀ σ' H', J σ' H' → tz D σ' H') → tu { D with nx := tz D } σ H1) (h2 : b = false → ∀ H1, Ex H H1 → (∀ σ' H', J σ' H' → tz D σ' H') → tw { D with nx := tz D } σ H1) : tSeq (tIfS t tu tw) tz D σ H := q_if h (fun a H1 e => h1 a H1 e fin) (fun a H1 e => h2 a H1 e fin)
theorem s_asgC1I {r : List V → Hp → VK → Prop} {i : Nat} (h : te σ H fun v H1 => r [v] H1 fun u H2 => D.nx (σ.set i (some u)) H2) : tAsg (tCB r (tCons te tNil)) (gName i) D σ H := h
theorem s_asgTI {i : Nat} (h : te σ H fun v H1 => D.nx (σ.set i (some v)) H1) : tAsg te (gName i) D σ H := h
theorem q_runIx {sp : Sp} {E : XK} {tr : TA} {vs : List V} {i : Nat} {z : Int} (h : EvA tr σ H vs) (k : ∀ H1, Ex H H1 → sp vs H1 (fun x H2 => rIxT K x (.int z) H2 (fun v H3 => tz D (σ.set i (some v)) H3)) E) : tSeq (tAsg (tOp (rIxT K) (tCall sp [] E tr) (tC (.int z))) (gName i)) tz D σ H := h H (Ex.refl H) _ fun H1 e => by
  rw [List.append_nil]
  exact k H1 e
theorem q_runNI {sp : Sp} {E : XK} {tr : TA} {i : Nat} (h : tr σ H fun vs H1 => sp vs H1 (fun v H2 => tz D (σ.set i (some v)) H2) E) : tSeq (tAsg (tCall sp [] E tr) (gName i)) tz D σ H := by
  have e : (fun (vs : List V) (H1 : Hp) => sp vs H1 (fun v H2 => tz D (σ.set i (some v)) H2) E) = fun vs H1 => sp (vs ++ []) H1 (fun v H2 => tz D (σ.set i (some v)) H2) E := by
    funext vs H1
    rw [List.append_nil]
  rw [e] at h
  exact h
end

end NR

set_option Elab.async false
set_option linter.all false
set_option maxRecDepth 100000
set_option maxHeartbeats 4000000
namespace NR
open PySem PySem.Spec PyProof.Rows L2 Evl LK LT LG LS LQ LX LO LP LV StX SL
open ND (DK Dk St)
open NS (fr cv hv headV)
open NT (Cc Sk Sd ST Fm cont newB fre setM dropD TxT TxH tno)
open NN (R Rows asc most ptr Wf ptrs cntLt cntLe TEx)
/-! ### one deed -/
def forBody : Stmt → List Stmt
  | .For _ _ b _ _ => b
  | _ => []
def loopS : List Stmt := forBody ((defBody sLaw).getD 4 (.Pass ⟨0, 0, 0, 0⟩))
def spLaw (K : PySem.W.Frag) (Pt Pf Pw : Addr) : Sp := fun vs H Q _ => ∃ (a : Addr) (ns : List Int), vs = [.ref a] ∧ SqL K H a (ns.map V.int) ∧ ns.length ≤ 63 ∧ Tab H Pt ∧ Tab H Pf ∧ Tab H Pw ∧ ∀ H', Ex H H' → Q (.bl true) H'
/-- a tree, and the list of its keys -/
structure T4 (c : Cc) (Pt Pf Pw : Addr) (U : List (List Int)) (G H : Hp) (q : Addr) (k : Sk) (d : Sd) (h : Nat) (t : El (h + 1)) (rt du : Addr) : Prop where
  W : W3 c Pt Pf Pw G H q k d
  r : d.r = 0
  s : Sok k d
  T : Ro1 k d h t
  fr : fre k d + (bks (h + 1) t).length = 91
  rt : H rt = some (.tup [.int (t.1 : Int), .int (k.g + 1)])
  ro : ∀ r ∈ its (h + 1) t, r.1 ∈ U
  dd : ∃ xs, H du = some (.lst xs) ∧ LR2 (Kt H) xs ((its (h + 1) t).map (·.1))
  dc : du ≠ k.cl
section
variable {c : Cc} {Pt Pf Pw : Addr} {U : List (List Int)} {G H H1 : Hp} {q : Addr} {k : Sk} {d : Sd} {h : Nat} {t : El (h + 1)} {rt du : Addr}
theorem T4.ex (J : T4 c Pt Pf Pw U G H q k d h t rt du) (e : Ex H H1) : T4 c Pt Pf Pw U G H1 q k d h t rt du := ⟨J.W.ex e, J.r, J.s, J.T, J.fr, e _ _ J.rt, J.ro, let ⟨xs, a, b⟩ := J.dd; ⟨xs, e _ _ a, b.imp fun _ _ h => h.mono e⟩, J.dc⟩
theorem T4.len (J : T4 c Pt Pf Pw U G H q k d h t rt du) : (its (h + 1) t).length ≤ U.length := len_le J.T.tr.a U J.ro
end
def TI (c : Cc) (Pt Pf Pw : Addr) (c0 : Int) (Hi : Hp) (a q l : Addr) (k : Sk) (xs : List V) (σ : L2.St) (B : Hp) : Prop := ∃ (G : Hp) (d : Sd) (h : Nat) (t : El (h + 1)) (rt du : Addr) (y5 y6 y7 y8 : Option V), σ = [some (.ref a), some (.ref q), some (.int 91), some (.ref rt), some (.ref du), y5, y6, y7, y8] ∧ T4 c Pt Pf Pw (Uc c0) G B q k d h t rt du ∧ Ex Hi G ∧ B l = some (.lst xs) ∧ l ≠ k.cl ∧ DsR B xs
theorem DsR.ft {H H1 : Hp} {xs : List V} (h : DsR H xs) (e : FT H H1) : DsR H1 xs := fun x hx => let ⟨p, a, b, h1, h2, h3⟩ := h x hx; ⟨p, a, b, h1, e.t h2, h3⟩
section
variable {P : Program} {w : World} {K : PySem.W.Frag} {mg : Str → Option Value} {base : Heap} {c : Cc} {Pt Pf Pw aK : Addr}
theorem ok_turn {f f1 f2 f3 f4 f5 f6 f7 f8 f9 fA : Addr} {fd fd1 fd2 fd3 fd4 fd5 fd6 fd7 fd8 fd9 fdA : FuncData} (F : Fun K "law" "law" sLaw f fd)
    (FCl : Fun K "_law_cell" "_law_cell" sCl f1 fd1) (GCl : FnOk P w K mg base CX0 1 f1 fd1 ["script", "k"] (spCl K)) (bCl : Binds K fd1 ["script", "k"] []) (gCl : mg "_law_cell" = some (.ref f1))
    (FLst : Fun K "_law_store" "_law_store" sLst f2 fd2) (GLst : FnOk P w K mg base CX0 6 f2 fd2 ["blocks", "generation"] (spLst c)) (bLst : Binds K fd2 ["blocks", "generation"] []) (gLst : mg "_law_store" = some (.ref f2))
    (FDe : Fun K "_law_deeds" "_law_deeds" sDe f3 fd3) (GDe : FnOk P w K mg base CX0 2 f3 fd3 ["script"] (spDe K)) (bDe : Binds K fd3 ["script"] []) (gDe : mg "_law_deeds" = some (.ref f3))
    (FKe : Fun K "_law_key" "_law_key" sKe f4 fd4) (GKe : FnOk P w K mg base CX0 2 f4 fd4 ["script", "index"] (spKe K)) (bKe : Binds K fd4 ["script", "index"] []) (gKe : mg "_law_key" = some (.ref f4))
    (FEt : Fun K "empty_tree" "empty_tree" sEt f5 fd5) (GEt : FnOk P w K mg base CX0 9 f5 fd5 ["store"] (spEt c Pt Pf Pw)) (bEt : Binds K fd5 ["store"] []) (gEt : mg "empty_tree" = some (.ref f5))
    (FTa : Fun K "take" "take" sTa f6 fd6) (GTa : FnOk P w K mg base CX0 (13 + 5) f6 fd6 ["store", "root", "key"] (spTa c Pt Pf Pw 5)) (bTa : Binds K fd6 ["store", "root", "key"] []) (gTa : mg "take" = some (.ref f6))
    (FPu : Fun K "put" "put" sPu f7 fd7) (GPu : FnOk P w K mg base CX0 (11 + 5) f7 fd7 ["store", "root", "key", "value"] (spPu c Pt Pf Pw 5)) (bPu : Binds K fd7 ["store", "root", "key", "value"] []) (gPu : mg "put" = some (.ref f7))
    (FHe : Fun K "height" "height" sHe f8 fd8) (GHe : FnOk P w K mg base CX0 7 f8 fd8 ["store", "root"] (spHt c Pt Pf Pw)) (bHe : Binds K fd8 ["store", "root"] []) (gHe : mg "height" = some (.ref f8))
    (FNp : Fun K "node_pointers" "node_pointers" sNp f9 fd9) (GNp : FnOk P w K mg base CX0 (7 + 6) f9 fd9 ["store", "root"] (spNp c Pt Pf Pw 6)) (bNp : Binds K fd9 ["store", "root"] []) (gNp : mg "node_pointers" = some (.ref f9))
    (FLw : Fun K "_law_walk" "_law_walk" sLw fA fdA) (GLw : FnOk P w K mg base CX0 6 fA fdA ["store", "root"] (spLw c Pt Pf Pw)) (bLw : Binds K fdA ["store", "root"] []) (gLw : mg "_law_walk" = some (.ref fA))
    {ffr : Addr} {fdfr : FuncData} (Gfree : FnOk P w K mg base CX0 3 ffr fdfr ["self"] (NT.spFree c)) (bfree : Binds K fdfr ["self"] []) (mfree : Meth K c.T "free" ffr) (TT : TxT mg K c.T) (tSorted : mg "sorted" = none) (T : NN.Txt mg K aK)
 {cdv : Value} {A : Around} {outer : List Env} {s : Shared} {H0 : Hp} {E : XK} (hr : Room 19 (A.deeper (envOfC "law" (defScope sLaw) s.heap.objs.size f cdv))) : ∃ tb, PSs (cxOf CX0 P w K mg base ["script", "store", "before", "root", "due", "deed", "key", "told", "other"] "law" (defScope sLaw) f cdv A outer s H0 E).nox loopS tb ∧
    ∀ (D : Ends) (Hi : Hp) (a q l : Addr) (k : Sk) (ns : List Int) (xs : List V) (x : V) (σ : L2.St) (B : Hp), SqL K Hi a (ns.map V.int) → x ∈ xs → TI c Pt Pf Pw (ns.getD 0 0) Hi a q l k xs σ B → tb { D with nx := TI c Pt Pf Pw (ns.getD 0 0) Hi a q l k xs, ct := TI c Pt Pf Pw (ns.getD 0 0) Hi a q l k xs } (σ.set 5 (some x)) B := by
  refine ⟨_, (pss_cons (ps_set (i := 6) scLaw.nd rfl (Or.inr rfl) (pe_call GKe (hr.mono (by omega)) (by rfl) gKe FKe.kp bKe .nil pass0 (pa_cons (pv 0) (pa_cons (pe_ix ix_tup (pv 5) pe_int (fun _ _ => rfl)) pa_nil))))
      (pss_cons (ps_if (PW.pt (pw_or (pt_cmpR op_eq (pe_ix ix_tup (pv 5) pe_int (fun _ _ => rfl)) pe_int (nomark _)) (pw_or1 (pt_cmpR op_eq (pe_ix ix_tup (pv 5) pe_int (fun _ _ => rfl)) pe_int (nomark _))))) (pss_cons (ps_set (i := 3) scLaw.nd rfl (Or.inl rfl) (pe_ix ix_tup (pe_call GTa (hr.mono (by omega)) (by rfl) gTa FTa.kp bTa .nil pass0 (pa_cons (pv 1) (pa_cons (pv 3) (pa_cons (pv 6) pa_nil)))) pe_int (fun _ _ => rfl)))
      (pss_one (ps_setLc (i := 4) (own := [("other", 8)]) (g := gName 8) rfl scLaw.nd rfl rfl (sw_true rfl rfl rfl (by decide +kernel)) (pi_list (pv 4)) (blkOk_by (own := [("other", 8)]) (N := ["script", "store", "before", "root", "due", "deed", "key", "told", "other"]) (sc := defScope sLaw) (by decide +kernel)) (fun _ _ _ _ _ => pg_name (i := 8) scLaw.nd rfl (Or.inl rfl)) (fun _ _ _ _ _ => (pts_one (pt_cmpR (r := rNeD K) (op_neD hr.units) (pv 8) (pv 6) (nomark _)))) (fun _ _ _ _ _ => (pv 8))))) (pss_cons (ps_set (i := 3) scLaw.nd rfl (Or.inl rfl) (pe_call GPu (hr.mono (by omega)) (by rfl) gPu FPu.kp bPu .nil pass0 (pa_cons (pv 1) (pa_cons (pv 3) (pa_cons (pv 6) (pa_cons (pe_tup (pa_cons (pe_ix ix_tup (pv 5) pe_int (fun _ _ => rfl)) (pa_cons pe_int (pa_cons pe_int (pa_cons (pe_ix ix_tup (pv 5) pe_int (fun _ _ => rfl)) pa_nil))))) pa_nil))))))
      (pss_one (ps_if (pt_cmpR (op_notInD (u65 hr)) (pv 6) (pv 4) rfl) (pss_one (ps_set (i := 4) scLaw.nd rfl (Or.inl rfl) (pe_callB (LSD.cr_sortedDt hr.units) (by rfl) tSorted (by decide +kernel) (pa_cons (pe_op op_cat (pv 4) (pe_lst (pa_cons (pv 6) pa_nil))) pa_nil)))) pss_nil))))
      (pss_cons (ps_set (i := 7) scLaw.nd rfl (Or.inl rfl) (pe_call GLw (hr.mono (by omega)) (by rfl) gLw FLw.kp bLw .nil pass0 (pa_cons (pv 1) (pa_cons (pv 3) pa_nil))))
      (pss_cons (ps_if (PW.pt (pw_or (pt_cmpR op_isN (pv 7) pe_non (nomark _)) (pw_or (pt_cmpR (op_neD hr.units) (pe_ix ix_tup (pv 7) pe_int (fun _ _ => rfl)) (pv 4) (nomark _)) (pw_or1 (pt_cmpR op_ne (pe_meth0 (pv 1) TT.cl mfree Gfree (hr.mono (by omega)) bfree .nil pass0) (pe_op op_sub (pv 2) (pe_callB call_len_seq (by rfl) T.len (by decide +kernel) (pa_cons (pe_ix ix_tup (pv 7) pe_int (fun _ _ => rfl)) pa_nil))) (nomark _)))))) (pss_one (ps_ret pe_bl)) pss_nil)
      (pss_one (ps_if (PW.pt (pw_or (pt_cmpR op_ne (pe_call GHe (hr.mono (by omega)) (by rfl) gHe FHe.kp bHe .nil pass0 (pa_cons (pv 1) (pa_cons (pv 3) pa_nil))) (pe_ix ix_tup (pv 7) pe_int (fun _ _ => rfl)) (nomark _)) (pw_or1 (pt_cmpR (op_neD hr.units) (pe_call GNp (hr.mono (by omega)) (by rfl) gNp FNp.kp bNp .nil pass0 (pa_cons (pv 1) (pa_cons (pv 3) pa_nil))) (pe_ix ix_tup (pv 7) pe_int (fun _ _ => rfl)) (nomark _))))) (pss_one (ps_ret pe_bl)) pss_nil)))))), fun D Hi a q l k ns xs x σ B hS hx hTI => ?_⟩
  obtain ⟨G, d, h, t, rt, du, y5, y6, y7, y8, rfl, J, eG, hl, hlc, hD⟩ := hTI
  obtain ⟨p, da, db, rfl, hp, ha0, hb0, hb61⟩ := hD x hx
  refine q_run (vs := [.ref a, .int db]) (ea_cons (ev_var rfl) (ea_cons (ev_op (ev_var rfl) ev_c (rv_ixT (st_of hp) rfl)) ea_nil)) fun B1 b1 => ⟨a, ns, db, rfl, ex_l ((eG.trans J.W.st.dk.g).trans b1) hS, hb0, hb61, fun kt B3 hkt b2 hkx => ?_⟩
  have b13 := b1.trans b2
  have J3 := J.ex b13
  obtain ⟨ks, hks⟩ : ∃ ks, ks = keyF (ns.getD 0 0) db := ⟨_, rfl⟩
  have kl : ks.length = 3 := by rw [hks]; rfl
  have kn : ∀ z ∈ ks, 0 ≤ z := by rw [hks]; exact key_nn _ hb0
  have km : ks ∈ Uc (ns.getD 0 0) := by rw [hks]; exact key_mem _ hb0 hb61
  rw [← hks] at hkx
  have hp3 := b13 _ _ hp
  have hl3 := b13 _ _ hl
  have hD3 := hD.ex b13
  have l61 : (its (h + 1) t).length ≤ 61 := by have := J.len; rw [Uc_len] at this; exact this
  have dle := depth_le J.T (by omega)
  refine q_ifK (b := decide (V.int da = V.int 3) || decide (V.int da = V.int 4)) (fun σ' B' => ∃ (G : Hp) (d : Sd) (h : Nat) (t : El (h + 1)) (rt du : Addr) (y8 : Option V), σ' = [some (.ref a), some (.ref q), some (.int 91), some (.ref rt), some (.ref du), some (.ref p), some (.ref kt), y7, y8] ∧ T4 c Pt Pf Pw (Uc (ns.getD 0 0)) G B' q k d h t rt du ∧ Ex Hi G ∧ B' l = some (.lst xs) ∧ DsR B' xs) (et_or (et_test (ev_op (ev_op (ev_var rfl) ev_c (rv_ixT (st_of hp3) (v := .int da) rfl)) ev_c (rv_eq rfl))) (fun _ => et_test (ev_op (ev_op (ev_var rfl) ev_c (rv_ixT (st_of hp3) (v := .int da) rfl)) ev_c (rv_eq rfl)))) (fun σ' B' hJ => ?_) (fun hb B4 b4 fin => ?_) (fun hb B4 b4 fin => ?_)
  · obtain ⟨G, d, h, t, rt, du, y8, rfl, J, eG, hl, hD⟩ := hJ
    have l61 : (its (h + 1) t).length ≤ 61 := by have := J.len; rw [Uc_len] at this; exact this
    have dle := depth_le J.T (by omega)
    have hb62 := (root_le J.T).1
    have hfr := J.fr
    refine q_run (vs := [.ref q, .ref rt]) (ea_cons (ev_var rfl) (ea_cons (ev_var rfl) ea_nil)) fun B1 b1 => ⟨G, q, k, d, h, t, rt, rfl, J.W.ex b1, J.s, J.T, b1 _ _ J.rt, by omega, by omega, fun tp la sa xs2 ys B2 htp b2 g1 g2 hk2 g3 hp3 => ?_⟩
    have b12 := b1.trans b2
    have J2 := J.ex b12
    obtain ⟨ds, hdu, hR⟩ := J2.dd
    obtain ⟨dx2, ho2⟩ := J2.W.st.o
    have lys : ys.length = (bks (h + 1) t).length := by rw [hp3.len, List.length_map]
    refine q_when (b := false) (et_is (et_or (et_test (ev_op (ev_var rfl) ev_c rv_isN)) (fun _ => et_or (et_test (ev_op (ev_op (ev_var rfl) ev_c (rv_ixT (st_of g1) (v := .ref la) rfl)) (ev_var rfl) (rv_neD (.lst (sq_of g2) (dp_kt hk2)) (.lst (sq_of hdu) (dp_kt hR)) (sh_kDs _) (by decide)))) (fun _ => et_test (ev_op (ev_meth0 (ev_var rfl) ho2 rfl (NT.sv_free J2.W.st)) (ev_op (ev_var rfl) (ev_lenL (ev_op (ev_var rfl) ev_c (rv_ixT (st_of g1) (v := .ref sa) rfl)) g3) rv_I0) (rv_ne rfl))))) ?_) (fun h => by cases h) (fun _ B3 b3 => ?_)
    · rw [decide_eq_false (p := V.ref tp = V.non) (fun z => by cases z), decide_eq_true (p := V.int (fre k d) = V.int (91 - (ys.length : Int))) (by rw [lys]; congr 1; omega)]
      rfl
    have J3 := J2.ex b3
    have g13 := b3 _ _ g1
    have g33 := b3 _ _ g3
    have hp33 := hp3.mono b3
    refine s_when (b := false) (et_is (et_or (b := false) (et_test (ev_op (ev_call (vs := [.ref q, .ref rt]) (ea_cons (ev_var rfl) (ea_cons (ev_var rfl) ea_nil)) (fun H1 e Q q E => ⟨G, _, k, d, rt, t.1, h + 1, [.int (k.g + 1)], rfl, J3.W.ex e, e _ _ J3.rt, hg_ok h t J3.s J3.T.tr J3.T.n, q⟩)) (ev_op (ev_var rfl) ev_c (rv_ixT (st_of g13) (v := .int ((h : Int) + 1)) rfl)) (rv_ne rfl))) (fun _ => et_test (b := false) (fun C cc Q1 q1 => ?_))) ?_) (fun h => by cases h) (fun _ B4 b4 => ?_)
    · refine ⟨.ref q, rfl, .ref rt, rfl, ?_⟩
      have c1 : Ex C C := Ex.refl _
      have cc1 := cc
      refine ⟨G, q, k, d, rt, t.1, k.g + 1, _, rfl, J3.W.ex cc1, cc1 _ _ J3.rt, (npt_ok h t J3.s J3.T.tr J3.T.n (by omega)).le (by omega), fun p3 zs C2 hp3 c2 h3 hP => ?_⟩
      have cc2 := cc1.trans c2
      refine (ev_op (ev_var rfl) ev_c (rv_ixT (st_of (cc2 _ _ g13)) (v := .ref sa) rfl)) C2 (Ex.refl _) _ fun C3 c3 => ?_
      exact rv_neD (H := C3) (.lst (sq_of (c3 _ _ h3)) (dp_pl (hP.mono c3))) (.lst (sq_of ((cc2.trans c3) _ _ g33)) (dp_pl (hp33.mono (cc2.trans c3)))) (sh_pDs _) (by decide) C3 (Ex.refl _) Q1 fun C4 c4 => q1 C4 (((c1.trans c2).trans c3).trans c4)
    · rw [decide_eq_true (p := V.int ((h + 1 : Nat) : Int) = V.int ((h : Int) + 1)) rfl]
      rfl
    · have b14 := (b12.trans b3).trans b4
      exact ⟨G, d, h, t, rt, du, _, _, _, _, rfl, J3.ex b4, eG, b14 _ _ hl, hlc, hD.ex b14⟩
  · have J4 := J3.ex b4
    have hk4 := b4 _ _ hkx
    have hlk := lk_ok kl h t J4.s J4.T.tr J4.T.n
    refine q_runIx (vs := [.ref q, .ref rt, .ref kt]) (ea_cons (ev_var rfl) (ea_cons (ev_var rfl) (ea_cons (ev_var rfl) ea_nil))) fun B5 b5 => ⟨G, q, k, d, rt, kt, t.1, h + 1, k.g + 1, ks, _, rfl, J4.W.ex b5, b5 _ _ J4.rt, b5 _ _ hk4, hlk, fun hn u B6 b6 hu => ⟨u, [.ref rt, .non], 0, .ref rt, rfl, rfl, st_of hu, rfl, ?_⟩, fun v hv => ?_⟩
    · have J6 := J4.ex (b5.trans b6)
      have hk6 := (b5.trans b6) _ _ hk4
      have b36 := b4.trans (b5.trans b6)
      obtain ⟨ds, hdu, hR⟩ := J6.dd
      refine s_asgTI (lc_kt (K := K) (f := fun k' => !decide (k' = ks)) hdu hR (by rw [List.length_map]; omega) (ev_var rfl) (fun _ => rfl) (fun B t k' e ht => et_is (et_test (ev_op (ev_var rfl) (ev_var rfl) (rv_neDD (dp_tupi (st_of ht)) (dp_tupi (st_of (e _ _ hk6))) (sh_kD _) (sh_kD _) (by decide)))) (by rw [eqvt_ints])) (fun t B => ev_var rfl) fun p2 ys B7 hp2 b7 g7 hR7 => fin _ _ ⟨G, d, h, t, rt, p2, _, rfl, ⟨J6.W.ex b7, J6.r, J6.s, J6.T, J6.fr, b7 _ _ J6.rt, J6.ro, ⟨ys, g7, ?_⟩, (ST.ne J6.W.st hp2).2.1⟩, eG, (b36.trans b7) _ _ hl3, hD3.ex (b36.trans b7)⟩)
      rw [← del_keys, del_none hn] at hR7
      exact hR7
    · obtain ⟨d1, d', n1, h', t', l', tb, wo, e, cg, T'⟩ := take_root kl J4.s J4.T (by rw [hv]; exact fun z => by cases z)
      refine ⟨d1, d', n1, t'.1, k.g + 1, k.g + 1, l', tb.le dle, wo, fun G' B6 y S Fm6 T6 R6 => ?_⟩
      obtain ⟨u, t1, va, rfl, hu, ht1, hva⟩ := R6
      refine ⟨u, [.ref t1, .ref va], 0, .ref t1, rfl, rfl, st_of hu, rfl, ?_⟩
      have W5 := J4.W.ex b5
      have ft := ft_of W5.st Fm6
      have W6 := W5.ch ft T6 cg.r
      have b45 := b4.trans b5
      obtain ⟨ds, hdu5, hR5⟩ := (J4.ex b5).dd
      have hdu := Fm.l W5.st Fm6 hdu5 J4.dc
      have hR := kt_tt (fun a xs h => ft.t h) hR5
      have hk6 := ft.t (b5 _ _ hk4)
      have f1 := cg.fre
      have f0 := J4.fr
      refine s_asgTI (lc_kt (K := K) (f := fun k' => !decide (k' = ks)) hdu hR (by rw [List.length_map]; omega) (ev_var rfl) (fun _ => rfl) (fun B t k' e ht => et_is (et_test (ev_op (ev_var rfl) (ev_var rfl) (rv_neDD (dp_tupi (st_of ht)) (dp_tupi (st_of (e _ _ hk6))) (sh_kD _) (sh_kD _) (by decide)))) (by rw [eqvt_ints])) (fun t B => ev_var rfl) fun p2 ys B7 hp2 b7 g7 hR7 => fin _ _ ⟨G', d', h', t', t1, p2, _, rfl, ⟨W6.ex b7, by rw [cg.r]; exact J4.r, cg.ok, T', by omega, b7 _ _ ht1, fun r hr => J4.ro r (by rw [e] at hr; exact (List.mem_filter.mp hr).1), ⟨ys, g7, ?_⟩, (ST.ne W6.st hp2).2.1⟩, eG.trans S.g, b7 _ _ (Fm.l W5.st Fm6 (b45 _ _ hl3) hlc), ((hD3.ex b45).ft ft).ex b7⟩)
      rw [← del_keys, ← e] at hR7
      exact hR7
  · have J4 := J3.ex b4
    have hk4 := b4 _ _ hkx
    obtain ⟨vs, hvs⟩ : ∃ vs : List Int, vs = [db, 0, 0, da] := ⟨_, rfl⟩
    have hkv : Ro (ks, vs) := ⟨kl, by rw [hvs]; rfl, kn, fun z hz => by
      have hz : z ∈ vs := hz
      rw [hvs] at hz
      simp only [List.mem_cons, List.not_mem_nil, or_false] at hz
      omega⟩
    have hb := (root_le J4.T).1
    have f0 := J4.fr
    have r0 := J4.r
    obtain ⟨d', h', t', pu, e, cg, T'⟩ := put_root hkv J4.s (by omega) J4.T (by omega)
    refine q_runNI ?_
    refine ⟨.ref q, rfl, .ref rt, rfl, .ref kt, rfl, ?_⟩
    refine (eu_tup (vs := ([db, 0, 0, da] : List Int).map V.int) (ea_cons (ev_op (ev_var rfl) ev_c (rv_ixT (st_of (b4 _ _ hp3)) (v := .int db) rfl)) (ea_cons ev_c (ea_cons ev_c (ea_cons (ev_op (ev_var rfl) ev_c (rv_ixT (st_of (b4 _ _ hp3)) (v := .int da) rfl)) ea_nil)))) (Nat.le_of_ble_eq_true rfl)) B4 (Ex.refl _) _ fun vq B5 hvq b5 hvx => ?_
    rw [← hvs] at hvx
    refine ⟨G, q, k, d, rt, kt, vq, t.1, k.g + 1, ks, vs, d', t'.1, k.g + 1, rfl, J4.W.ex b5, b5 _ _ J4.rt, b5 _ _ hk4, hvx, pu.le dle, fun G' B6 y S Fm6 T6 R6 => ?_⟩
    obtain ⟨t1, rfl, ht1⟩ := R6
    have W5 := J4.W.ex b5
    have ft := ft_of W5.st Fm6
    have W6 := W5.ch ft T6 cg.r
    have b45 := b4.trans b5
    obtain ⟨ds, hdu5, hR5⟩ := (J4.ex b5).dd
    have hdu := Fm.l W5.st Fm6 hdu5 J4.dc
    have hR := kt_tt (fun a xs h => ft.t h) hR5
    have hk6 := ft.t (b5 _ _ hk4)
    have f1 := cg.fre
    have hl6 := Fm.l W5.st Fm6 (b45 _ _ hl3) hlc
    have hD6 := (hD3.ex b45).ft ft
    have ro' : ∀ r ∈ its (h' + 1) t', r.1 ∈ Uc (ns.getD 0 0) := fun r hr => by
      rw [e] at hr
      rcases (ins_all J4.T.tr.a ks vs).2.2.2.2 r hr with z | z
      · exact J4.ro r z
      · rw [z]
        exact km
    have lds := hR.len
    rw [List.length_map] at lds
    refine s_when (b := !decide (ks ∈ (its (h + 1) t).map (·.1))) (et_is (et_test (ev_op (ev_var rfl) (ev_var rfl) (rv_niD (d := kD ks) (dp_tupi (st_of hk6)) (.lst (sq_of hdu) (dp_kt hR)) (sh_kD _) (sh_kDs _) (by decide) (by decide)))) (by rw [any_kD])) (fun hb2 B7 b7 => ?_) (fun hb2 B7 b7 => ?_)
    · have hni : ks ∉ (its (h + 1) t).map (·.1) := fun z => by
        rw [decide_eq_true z] at hb2
        cases hb2
      refine s_asgC1I ?_
      refine el_cat (ev_var rfl) (b7 _ _ hdu) (el_lst (ea_cons (ev_var rfl) ea_nil) (Nat.le_of_ble_eq_true rfl)) (by rw [lds]; simp; omega) B7 (Ex.refl _) _ fun L B8 hL b8 gL => ?_
      have b78 := b7.trans b8
      refine sorted_keys gL ((hR.imp fun _ _ h => h.mono b78).app (.cons ⟨kt, rfl, b78 _ _ hk6⟩ .nil)) (kl := (its (h' + 1) t').map (·.1)) ?_ (show ((its (h' + 1) t').map (·.1)).Pairwise klt from List.pairwise_map.mpr T'.tr.a) (fun k hk => ?_) fun s ys hs hR8 => ?_
      rotate_left 2
      · exact fin _ _ ⟨G', d', h', t', t1, s, _, rfl, ⟨W6.ex (b78.trans (Ex.new hs)), by rw [cg.r]; exact r0, cg.ok, T', by omega, (b78.trans (Ex.new hs)) _ _ ht1, ro', ⟨ys, upd_same, hR8⟩, (ST.ne (W6.ex b78).st hs).2.1⟩, eG.trans S.g, (b78.trans (Ex.new hs)) _ _ hl6, hD6.ex (b78.trans (Ex.new hs))⟩
      · rcases keys_ins J4.T.tr.a ks vs with ⟨z1, z2⟩ | ⟨z1, z2⟩
        · rw [e]
          exact (List.perm_append_singleton ks _).trans z2.symm
        · exact absurd ((get_iff J4.T.tr.a ks).mp z1) hni
      · rcases List.mem_append.mp hk with z | z
        · obtain ⟨r, hr, rfl⟩ := List.mem_map.mp z
          obtain ⟨j, _, ej⟩ := List.mem_map.mp (J4.ro r hr)
          rw [← ej]
          exact fun z => by cases z
        · rw [List.mem_singleton.mp z, hks]
          exact fun z => by cases z
    · have hin : ks ∈ (its (h + 1) t).map (·.1) := by
        cases hz : decide (ks ∈ (its (h + 1) t).map (·.1)) with
        | true => exact of_decide_eq_true hz
        | false => rw [hz] at hb2; cases hb2
      refine fin _ _ ⟨G', d', h', t', t1, du, _, rfl, ⟨W6.ex b7, by rw [cg.r]; exact r0, cg.ok, T', by omega, b7 _ _ ht1, ro', ⟨ds, b7 _ _ hdu, ?_⟩, J4.dc⟩, eG.trans S.g, b7 _ _ hl6, hD6.ex b7⟩
      rcases keys_ins J4.T.tr.a ks vs with ⟨z1, z2⟩ | ⟨z1, z2⟩
      · exact absurd z1 ((get_iff J4.T.tr.a ks).mpr hin)
      · rw [e, z2]
        exact hR.imp fun _ _ h => h.mono b7
end

end NR

set_option Elab.async false
set_option linter.all false
set_option maxRecDepth 100000
set_option maxHeartbeats 4000000
namespace NR
open PySem PySem.Spec PyProof.Rows L2 Evl LK LT LG LS LQ LX LO LP LV StX SL
open ND (DK Dk St)
open NS (fr cv hv headV)
open NT (Cc Sk Sd ST Fm cont newB fre setM dropD TxT TxH tno)
open NN (R Rows asc most ptr Wf ptrs cntLt cntLe TEx)
/-! ### the law -/
theorem cs0_sok {k : Sk} (hn : k.n = 96) (hh : k.hs = NS.pos (cs0 96)) (hg : 0 ≤ k.g) : Sok k ⟨0, cs0 96, fun _ => none⟩ ∧ fre k ⟨0, cs0 96, fun _ => none⟩ = 91 := by
  refine ⟨⟨by rw [hn]; rfl, by rw [hn, hh]; rfl, by rw [hn]; decide, fun _ _ => rfl, hg, fun x hx => ?_⟩, ?_⟩
  · show cv (cs0 96) x ≠ 0
    rcases (by omega : x = 0 ∨ x = 1 ∨ x = 2 ∨ x = 3 ∨ x = 4) with rfl | rfl | rfl | rfl | rfl <;> decide +kernel
  · unfold NT.fre
    rw [hh]
    show (((fr (cs0 96) (NS.pos (cs0 96)) false).length : Nat) : Int) = 91
    have : (fr (cs0 96) (NS.pos (cs0 96)) false).length = 91 := by decide +kernel
    rw [this]
    rfl
section
variable {P : Program} {w : World} {K : PySem.W.Frag} {mg : Str → Option Value} {base : Heap} {c : Cc} {Pt Pf Pw aK : Addr}
theorem ok_law {f f1 f2 f3 f4 f5 f6 f7 f8 f9 fA : Addr} {fd fd1 fd2 fd3 fd4 fd5 fd6 fd7 fd8 fd9 fdA : FuncData} (F : Fun K "law" "law" sLaw f fd)
    (FCl : Fun K "_law_cell" "_law_cell" sCl f1 fd1) (GCl : FnOk P w K mg base CX0 1 f1 fd1 ["script", "k"] (spCl K)) (bCl : Binds K fd1 ["script", "k"] []) (gCl : mg "_law_cell" = some (.ref f1))
    (FLst : Fun K "_law_store" "_law_store" sLst f2 fd2) (GLst : FnOk P w K mg base CX0 6 f2 fd2 ["blocks", "generation"] (spLst c)) (bLst : Binds K fd2 ["blocks", "generation"] []) (gLst : mg "_law_store" = some (.ref f2))
    (FDe : Fun K "_law_deeds" "_law_deeds" sDe f3 fd3) (GDe : FnOk P w K mg base CX0 2 f3 fd3 ["script"] (spDe K)) (bDe : Binds K fd3 ["script"] []) (gDe : mg "_law_deeds" = some (.ref f3))
    (FKe : Fun K "_law_key" "_law_key" sKe f4 fd4) (GKe : FnOk P w K mg base CX0 2 f4 fd4 ["script", "index"] (spKe K)) (bKe : Binds K fd4 ["script", "index"] []) (gKe : mg "_law_key" = some (.ref f4))
    (FEt : Fun K "empty_tree" "empty_tree" sEt f5 fd5) (GEt : FnOk P w K mg base CX0 9 f5 fd5 ["store"] (spEt c Pt Pf Pw)) (bEt : Binds K fd5 ["store"] []) (gEt : mg "empty_tree" = some (.ref f5))
    (FTa : Fun K "take" "take" sTa f6 fd6) (GTa : FnOk P w K mg base CX0 (13 + 5) f6 fd6 ["store", "root", "key"] (spTa c Pt Pf Pw 5)) (bTa : Binds K fd6 ["store", "root", "key"] []) (gTa : mg "take" = some (.ref f6))
    (FPu : Fun K "put" "put" sPu f7 fd7) (GPu : FnOk P w K mg base CX0 (11 + 5) f7 fd7 ["store", "root", "key", "value"] (spPu c Pt Pf Pw 5)) (bPu : Binds K fd7 ["store", "root", "key", "value"] []) (gPu : mg "put" = some (.ref f7))
    (FHe : Fun K "height" "height" sHe f8 fd8) (GHe : FnOk P w K mg base CX0 7 f8 fd8 ["store", "root"] (spHt c Pt Pf Pw)) (bHe : Binds K fd8 ["store", "root"] []) (gHe : mg "height" = some (.ref f8))
    (FNp : Fun K "node_pointers" "node_pointers" sNp f9 fd9) (GNp : FnOk P w K mg base CX0 (7 + 6) f9 fd9 ["store", "root"] (spNp c Pt Pf Pw 6)) (bNp : Binds K fd9 ["store", "root"] []) (gNp : mg "node_pointers" = some (.ref f9))
    (FLw : Fun K "_law_walk" "_law_walk" sLw fA fdA) (GLw : FnOk P w K mg base CX0 6 fA fdA ["store", "root"] (spLw c Pt Pf Pw)) (bLw : Binds K fdA ["store", "root"] []) (gLw : mg "_law_walk" = some (.ref fA))
    {ffr : Addr} {fdfr : FuncData} (Gfree : FnOk P w K mg base CX0 3 ffr fdfr ["self"] (NT.spFree c)) (bfree : Binds K fdfr ["self"] []) (mfree : Meth K c.T "free" ffr) (TT : TxT mg K c.T) (tSorted : mg "sorted" = none) (T : NN.Txt mg K aK)
 : FnOk P w K mg base CX0 20 f fd ["script"] (spLaw K Pt Pf Pw) := by
  refine F.ok (k := 19) scLaw (fun vs H Q E h => ?_) (fun cdv A outer s H0 vs Q E hr h => ?_)
  · obtain ⟨a, ns, rfl, _⟩ := h
    rfl
  · obtain ⟨a, ns, rfl, hS, h63, hP1, hP2, hP3, qq⟩ := h
    obtain ⟨tb0, hturn, kturn⟩ := ok_turn (Pt := Pt) (Pf := Pf) (Pw := Pw) (c := c) F FCl GCl bCl gCl FLst GLst bLst gLst FDe GDe bDe gDe FKe GKe bKe gKe FEt GEt bEt gEt FTa GTa bTa gTa FPu GPu bPu gPu FHe GHe bHe gHe FNp GNp bNp gNp FLw GLw bLw gLw Gfree bfree mfree TT tSorted T (cdv := cdv) (A := A) (outer := outer) (s := s) (H0 := H0) (E := E) hr
    refine ⟨_, (pss_cons (ps_set (i := 1) scLaw.nd rfl (Or.inl rfl) (pe_call GLst (hr.mono (by omega)) (by rfl) gLst FLst.kp bLst .nil pass0 (pa_cons pe_int (pa_cons (pe_op op_add pe_int (pe_op op_mod (pe_call GCl (hr.mono (by omega)) (by rfl) gCl FCl.kp bCl .nil pass0 (pa_cons (pv 0) (pa_cons pe_int pa_nil))) pe_int)) pa_nil))))
      (pss_cons (ps_set (i := 2) scLaw.nd rfl (Or.inl rfl) (pe_meth0 (pv 1) TT.cl mfree Gfree (hr.mono (by omega)) bfree .nil pass0))
      (pss_cons (ps_set (i := 3) scLaw.nd rfl (Or.inl rfl) (pe_call GEt (hr.mono (by omega)) (by rfl) gEt FEt.kp bEt .nil pass0 (pa_cons (pv 1) pa_nil)))
      (pss_cons (ps_set (i := 4) scLaw.nd rfl (Or.inl rfl) (pe_lst pa_nil))
      (pss_cons (ps_for PassesOwn.never rfl (pi_list (pe_call GDe (hr.mono (by omega)) (by rfl) gDe FDe.kp bDe .nil pass0 (pa_cons (pv 0) pa_nil))) (pg_name (i := 5) scLaw.nd rfl (Or.inl rfl)) hturn)
      (pss_one (ps_ret pe_bl))))))), ?_⟩
    refine q_run (vs := [.int 96, .int (1 + ns.getD 0 0 % 7)]) (ea_cons ev_c (ea_cons (ev_op ev_c (ev_op (ev_call (ea_cons (ev_var rfl) (ea_cons ev_c ea_nil)) (sv_cl hS 0 rfl)) ev_c (rv_I (by show (0 : Int) < 7; decide))) rv_I0) ea_nil)) fun B1 b1 => ⟨96, 1 + ns.getD 0 0 % 7, rfl, by decide, by decide, fun G q k B2 eG T2 hn hg hh => ?_⟩
    have g0 : 0 ≤ k.g := by omega
    obtain ⟨so, hfr⟩ := cs0_sok hn hh g0
    have eHG := b1.trans eG
    have eH2 := eHG.trans T2.dk.g
    have W2 : W3 c Pt Pf Pw G B2 q k ⟨0, cs0 96, fun _ => none⟩ := ⟨T2, Int.le_refl 0, g0, hP1.mono eH2, hP2.mono eH2, hP3.mono eH2⟩
    obtain ⟨dx2, ho2⟩ := W2.st.o
    refine q_asg (v := .int 91) (ev_is (ev_meth0 (ev_var rfl) ho2 rfl (NT.sv_free W2.st)) (by rw [hfr])) fun B2' b2' => ?_
    have W2 := W2.ex b2'
    obtain ⟨d', t, mk, ei, cg, T'⟩ := empty_root so (Int.le_refl 0) (by rw [hfr]; show (0 : Int) < 91; decide)
    refine q_run (vs := [.ref q]) (ea_cons (ev_var rfl) ea_nil) fun B3 b3 => ⟨G, q, k, _, d', t.1, rfl, W2.ex b3, mk, fun G' B4 y S Fm4 T4' R4 => ?_⟩
    obtain ⟨rt, rfl, hrt⟩ := R4
    have ft := ft_of (W2.ex b3).st Fm4
    have W4 := (W2.ex b3).ch ft T4' cg.r
    have f1 : fre k d' + ((bks (0 + 1) t).length : Int) = _ := cg.fre
    refine q_asgL (xs := []) (el_lst ea_nil (Nat.le_of_ble_eq_true rfl)) fun du B6 hdu e5 hdx => ?_
    have ei' : its (0 + 1) t = [] := ei
    have J6 : T4 c Pt Pf Pw (Uc (ns.getD 0 0)) G' B6 q k d' 0 t rt du := ⟨W4.ex e5, by rw [cg.r], cg.ok, T', by rw [hfr] at f1; simp only [List.length_nil] at f1; omega, e5 _ _ hrt, fun r hr => (by rw [ei'] at hr; cases hr), ⟨[], hdx, by rw [ei']; exact .nil⟩, (ST.ne W4.st hdu).2.1⟩
    have eG5 := eHG.trans S.g
    refine q_forCall (vs := [.ref a]) (ea_cons (ev_var rfl) ea_nil) fun B7 b7 => ⟨a, ns, rfl, ex_l ((eG5.trans J6.W.st.dk.g).trans b7) hS, h63, fun l xs B8 hl b8 hlx hlen hD => ⟨l, rfl, ⟨xs, sq_of hlx⟩, for_list (xs := xs) (fun i σ' B => TI c Pt Pf Pw (ns.getD 0 0) _ a q l k xs σ' B) ⟨G', d', 0, t, rt, du, _, _, _, _, rfl, J6.ex (b7.trans b8), eG5, hlx, (ST.ne (J6.ex b7).W.st hl).2.1, hD⟩ (fun i σ' B _ h => ?_) (fun i x σ' B hx h => ?_) (fun σ' B h => ?_)⟩⟩
    · obtain ⟨G, d, h, t, rt, du, y5, y6, y7, y8, rfl, J, eG, hl, hlc, hD⟩ := h
      exact sq_of hl
    · exact kturn { nx := fun _ _ => True, rt := _, bk := _, ct := fun _ _ => True } _ a q l k ns xs x σ' B hS (List.mem_of_getElem? hx) h
    · obtain ⟨G, d, h, t, rt, du, y5, y6, y7, y8, rfl, J, eG, hl, hlc, hD⟩ := h
      dsimp only
      exact s_ret ev_c fun B9 b9 => qq B9 ((eG.trans J.W.st.dk.g).trans b9)
end

end NR

set_option Elab.async false
set_option linter.all false
set_option maxRecDepth 100000
set_option maxHeartbeats 4000000
namespace NR
open PySem PySem.Spec PyProof.Rows L2 Evl LK LT LG LS LQ LX LO LP LV StX SL
open NT (Cc)
open NH
theorem facts {l : PySem.W.OpenLaw} {w : World} {K : PySem.W.Frag} {h : Heap} {mg : Str → Option Value} {fa : Addr} (X : K.In h) (G : h.Ns mainGlobals mg) (hfa : mg ("law" : Str) = some (.ref fa)) (c : He.SaysX faL fnL [] tfL exL w h K) :
    ∃ (fd : FuncData) (cs : List (Addr × Addr)) (sp : Sp), (∀ p ∈ cs, h.get? p.2 = some { cls := .none, data := .fields #[] } ∧ K.lookup p.2 = none ∧ PySem.W.CodeHd h p.1 p.2) ∧ (∀ (s : Shared) (u : Value), BindsTo s fd ⟨[u], []⟩ [("script", u)]) ∧
        (∀ (H : Hp) (a : Addr) (ns : List Int), ns.length ≤ 63 → (∀ p ∈ cs, LT.Tab H p.2) → SqL K H a (ns.map V.int) → ∀ Q : VK, (∀ H', Ex H H' → Q (.bl true) H') → sp [.ref a] H Q fun _ _ _ => False) ∧
        ∀ base : Heap, K.In base → base.Ns mainGlobals mg → (∀ p ∈ cs, LamX.TabB base mg p.1 p.2) → FnOk l.prog w K mg base CX0 20 fa fd ["script"] sp := by
  have cd := c.t.d
  obtain ⟨fd1, F1⟩ := cd.def_ 0 (d := d1) rfl
  have F1 := HE.fun_of (st := ND.sIw) F1
  have m1 := He.glo_ok X G (cd.fact 0 (f := .glo "is_word") rfl)
  have b1 := F1.binds (ps := ["value"]) fun _ _ _ _ _ _ us hl => match us, hl with | [_], _ => rfl
  obtain ⟨fd2, F2⟩ := cd.def_ 1 (d := d2) rfl
  have F2 := HE.fun_of (st := ND.sAre) F2
  have F2 := HE.funC_of F2
  have m2 := He.glo_ok X G (cd.fact 1 (f := .glo "are_words") rfl)
  have b2 := F2.fun.binds (ps := ["values", "many"]) fun _ _ _ _ _ _ us hl => match us, hl with | [_, _], _ => rfl
  obtain ⟨fd3, F3⟩ := cd.def_ 2 (d := d3) rfl
  have F3 := HE.fun_of (st := ND.sSize) F3
  have m3 := He.glo_ok X G (cd.fact 2 (f := .glo "is_size") rfl)
  have b3 := F3.binds (ps := ["blocks"]) fun _ _ _ _ _ _ us hl => match us, hl with | [_], _ => rfl
  obtain ⟨fd4, F4⟩ := cd.def_ 3 (d := d4) rfl
  have F4 := HE.fun_of (st := ND.sInit) F4
  have b4 := F4.binds (ps := ["self", "blocks"]) fun _ _ _ _ _ _ us hl => match us, hl with | [_, _], _ => rfl
  obtain ⟨fd5, F5⟩ := cd.def_ 4 (d := d5) rfl
  have F5 := HE.fun_of (st := ND.sRead) F5
  have m5 := He.meth_ok (cd.fact 3 (f := .meth "Disk" "read") rfl)
  have b5 := F5.binds (ps := ["self", "sector"]) fun _ _ _ _ _ _ us hl => match us, hl with | [_, _], _ => rfl
  obtain ⟨fd6, F6⟩ := cd.def_ 5 (d := d6) rfl
  have F6 := HE.fun_of (st := ND.sSec) F6
  have m6 := He.meth_ok (cd.fact 4 (f := .meth "Disk" "_is_sector") rfl)
  have b6 := F6.binds (ps := ["self", "sector"]) fun _ _ _ _ _ _ us hl => match us, hl with | [_, _], _ => rfl
  obtain ⟨fd7, F7⟩ := cd.def_ 6 (d := d7) rfl
  have F7 := HE.fun_of (st := ND.sBeg) F7
  have m7 := He.meth_ok (cd.fact 5 (f := .meth "Disk" "_begin_operation") rfl)
  have b7 := F7.binds (ps := ["self"]) fun _ _ _ _ _ _ us hl => match us, hl with | [_], _ => rfl
  obtain ⟨fd8, F8⟩ := cd.def_ 7 (d := d8) rfl
  have F8 := HE.fun_of (st := NS.sInit) F8
  have b8 := F8.binds (ps := ["self", "uses"]) fun _ _ _ _ _ _ us hl => match us, hl with | [_, _], _ => rfl
  obtain ⟨fd9, F9⟩ := cd.def_ 8 (d := d9) rfl
  have F9 := HE.fun_of (st := NS.sTake) F9
  have m9 := He.meth_ok (cd.fact 6 (f := .meth "Space" "take") rfl)
  have b9 := F9.binds (ps := ["self", "reserve"]) fun _ _ _ _ _ _ us hl => match us, hl with | [_, _], _ => rfl
  obtain ⟨fd10, F10⟩ := cd.def_ 9 (d := d10) rfl
  have F10 := HE.fun_of (st := NS.sLeast) F10
  have m10 := He.meth_ok (cd.fact 7 (f := .meth "Space" "least_free") rfl)
  have b10 := F10.binds (ps := ["self"]) fun _ _ _ _ _ _ us hl => match us, hl with | [_], _ => rfl
  obtain ⟨fd11, F11⟩ := cd.def_ 10 (d := d11) rfl
  have F11 := HE.fun_of (st := NS.sShare) F11
  have m11 := He.meth_ok (cd.fact 8 (f := .meth "Space" "share") rfl)
  have b11 := F11.binds (ps := ["self", "block"]) fun _ _ _ _ _ _ us hl => match us, hl with | [_, _], _ => rfl
  obtain ⟨fd12, F12⟩ := cd.def_ 11 (d := d12) rfl
  have F12 := HE.fun_of (st := NS.sDrop) F12
  have m12 := He.meth_ok (cd.fact 9 (f := .meth "Space" "drop") rfl)
  have b12 := F12.binds (ps := ["self", "block"]) fun _ _ _ _ _ _ us hl => match us, hl with | [_, _], _ => rfl
  obtain ⟨fd13, F13⟩ := cd.def_ 12 (d := d13) rfl
  have F13 := HE.fun_of (st := NS.sUses) F13
  have m13 := He.meth_ok (cd.fact 10 (f := .meth "Space" "uses") rfl)
  have b13 := F13.binds (ps := ["self", "block"]) fun _ _ _ _ _ _ us hl => match us, hl with | [_, _], _ => rfl
  obtain ⟨fd14, F14⟩ := cd.def_ 13 (d := d14) rfl
  have F14 := HE.fun_of (st := NS.sNew) F14
  have m14 := He.meth_ok (cd.fact 11 (f := .meth "Space" "is_new") rfl)
  have b14 := F14.binds (ps := ["self", "block"]) fun _ _ _ _ _ _ us hl => match us, hl with | [_, _], _ => rfl
  obtain ⟨fd15, F15⟩ := cd.def_ 14 (d := d15) rfl
  have F15 := HE.fun_of (st := NS.sFree) F15
  have m15 := He.meth_ok (cd.fact 12 (f := .meth "Space" "is_free") rfl)
  have b15 := F15.binds (ps := ["self", "block"]) fun _ _ _ _ _ _ us hl => match us, hl with | [_, _], _ => rfl
  obtain ⟨fd16, F16⟩ := cd.def_ 15 (d := d16) rfl
  have F16 := HE.fun_of (st := NS.sFr) F16
  have m16 := He.meth_ok (cd.fact 13 (f := .meth "Space" "free") rfl)
  have b16 := F16.binds (ps := ["self"]) fun _ _ _ _ _ _ us hl => match us, hl with | [_], _ => rfl
  obtain ⟨fd17, F17⟩ := cd.def_ 16 (d := d17) rfl
  have F17 := HE.fun_of (st := NS.sCu) F17
  have m17 := He.meth_ok (cd.fact 14 (f := .meth "Space" "_count_unused") rfl)
  have b17 := F17.binds (ps := ["self", "held"]) fun _ _ _ _ _ _ us hl => match us, hl with | [_, _], _ => rfl
  obtain ⟨fd18, F18⟩ := cd.def_ 17 (d := d18) rfl
  have F18 := HE.fun_of (st := NS.sCe) F18
  have m18 := He.meth_ok (cd.fact 15 (f := .meth "Space" "_check_exists") rfl)
  have b18 := F18.binds (ps := ["self", "block"]) fun _ _ _ _ _ _ us hl => match us, hl with | [_, _], _ => rfl
  obtain ⟨fd19, F19⟩ := cd.def_ 18 (d := d19) rfl
  have F19 := HE.fun_of (st := NS.sCk) F19
  have m19 := He.meth_ok (cd.fact 16 (f := .meth "Space" "_check_used") rfl)
  have b19 := F19.binds (ps := ["self", "block"]) fun _ _ _ _ _ _ us hl => match us, hl with | [_, _], _ => rfl
  obtain ⟨fd20, F20⟩ := cd.def_ 19 (d := d20) rfl
  have F20 := HE.fun_of (st := NT.sRb) F20
  have m20 := He.glo_ok X G (cd.fact 17 (f := .glo "read_block") rfl)
  have b20 := F20.binds (ps := ["disk", "number"]) fun _ _ _ _ _ _ us hl => match us, hl with | [_, _], _ => rfl
  obtain ⟨fd21, F21⟩ := cd.def_ 20 (d := d21) rfl
  have F21 := HE.fun_of (st := NT.sHin) F21
  have b21 := F21.binds (ps := ["self", "generation", "table", "blocks"]) fun _ _ _ _ _ _ us hl => match us, hl with | [_, _, _, _], _ => rfl
  obtain ⟨fd22, F22⟩ := cd.def_ 21 (d := d22) rfl
  have F22 := HE.fun_of (st := NT.sInit) F22
  have b22 := F22.binds (ps := ["self", "disk", "head", "space"]) fun _ _ _ _ _ _ us hl => match us, hl with | [_, _, _, _], _ => rfl
  obtain ⟨fd23, F23⟩ := cd.def_ 22 (d := d23) rfl
  have F23 := HE.fun_of (st := NT.sUr) F23
  have m23 := He.meth_ok (cd.fact 18 (f := .meth "Store" "use_reserve") rfl)
  have b23 := F23.binds (ps := ["self", "reserve"]) fun _ _ _ _ _ _ us hl => match us, hl with | [_, _], _ => rfl
  obtain ⟨fd24, F24⟩ := cd.def_ 23 (d := d24) rfl
  have F24 := HE.fun_of (st := NT.sGen) F24
  have m24 := He.meth_ok (cd.fact 19 (f := .meth "Store" "generation") rfl)
  have b24 := F24.binds (ps := ["self"]) fun _ _ _ _ _ _ us hl => match us, hl with | [_], _ => rfl
  obtain ⟨fd25, F25⟩ := cd.def_ 24 (d := d25) rfl
  have F25 := HE.fun_of (st := NT.sRead) F25
  have m25 := He.meth_ok (cd.fact 20 (f := .meth "Store" "read") rfl)
  have b25 := F25.binds (ps := ["self", "pointer"]) fun _ _ _ _ _ _ us hl => match us, hl with | [_, _], _ => rfl
  obtain ⟨fd26, F26⟩ := cd.def_ 25 (d := d26) rfl
  have F26 := HE.fun_of (st := NT.sNp) F26
  have m26 := He.meth_ok (cd.fact 21 (f := .meth "Store" "next_pointer") rfl)
  have b26 := F26.binds (ps := ["self"]) fun _ _ _ _ _ _ us hl => match us, hl with | [_], _ => rfl
  obtain ⟨fd27, F27⟩ := cd.def_ 26 (d := d27) rfl
  have F27 := HE.fun_of (st := NT.sMake) F27
  have m27 := He.meth_ok (cd.fact 22 (f := .meth "Store" "make") rfl)
  have b27 := F27.binds (ps := ["self", "words"]) fun _ _ _ _ _ _ us hl => match us, hl with | [_, _], _ => rfl
  obtain ⟨fd28, F28⟩ := cd.def_ 27 (d := d28) rfl
  have F28 := HE.fun_of (st := NT.sNew) F28
  have m28 := He.meth_ok (cd.fact 23 (f := .meth "Store" "is_new") rfl)
  have b28 := F28.binds (ps := ["self", "pointer"]) fun _ _ _ _ _ _ us hl => match us, hl with | [_, _], _ => rfl
  obtain ⟨fd29, F29⟩ := cd.def_ 28 (d := d29) rfl
  have F29 := HE.fun_of (st := NT.sWrite) F29
  have m29 := He.meth_ok (cd.fact 24 (f := .meth "Store" "write") rfl)
  have b29 := F29.binds (ps := ["self", "pointer", "words"]) fun _ _ _ _ _ _ us hl => match us, hl with | [_, _, _], _ => rfl
  obtain ⟨fd30, F30⟩ := cd.def_ 29 (d := d30) rfl
  have F30 := HE.fun_of (st := NT.sShare) F30
  have m30 := He.meth_ok (cd.fact 25 (f := .meth "Store" "share") rfl)
  have b30 := F30.binds (ps := ["self", "pointer"]) fun _ _ _ _ _ _ us hl => match us, hl with | [_, _], _ => rfl
  obtain ⟨fd31, F31⟩ := cd.def_ 30 (d := d31) rfl
  have F31 := HE.fun_of (st := NT.sDrop) F31
  have m31 := He.meth_ok (cd.fact 26 (f := .meth "Store" "drop") rfl)
  have b31 := F31.binds (ps := ["self", "pointer"]) fun _ _ _ _ _ _ us hl => match us, hl with | [_, _], _ => rfl
  obtain ⟨fd32, F32⟩ := cd.def_ 31 (d := d32) rfl
  have F32 := HE.fun_of (st := NT.sUses) F32
  have m32 := He.meth_ok (cd.fact 27 (f := .meth "Store" "uses") rfl)
  have b32 := F32.binds (ps := ["self", "pointer"]) fun _ _ _ _ _ _ us hl => match us, hl with | [_, _], _ => rfl
  obtain ⟨fd33, F33⟩ := cd.def_ 32 (d := d33) rfl
  have F33 := HE.fun_of (st := NT.sReq) F33
  have m33 := He.meth_ok (cd.fact 28 (f := .meth "Store" "require") rfl)
  have b33 := F33.binds (ps := ["self", "many"]) fun _ _ _ _ _ _ us hl => match us, hl with | [_, _], _ => rfl
  obtain ⟨fd34, F34⟩ := cd.def_ 33 (d := d34) rfl
  have F34 := HE.fun_of (st := NT.sFree) F34
  have m34 := He.meth_ok (cd.fact 29 (f := .meth "Store" "free") rfl)
  have b34 := F34.binds (ps := ["self"]) fun _ _ _ _ _ _ us hl => match us, hl with | [_], _ => rfl
  obtain ⟨fd35, F35⟩ := cd.def_ 34 (d := d35) rfl
  have F35 := HE.fun_of (st := NN.sMost) F35
  have m35 := He.glo_ok X G (cd.fact 30 (f := .glo "most_items") rfl)
  have b35 := F35.binds (ps := ["kind"]) fun _ _ _ _ _ _ us hl => match us, hl with | [_], _ => rfl
  obtain ⟨fd36, F36⟩ := cd.def_ 35 (d := d36) rfl
  have F36 := HE.fun_of (st := NN.sIw) F36
  have m36 := He.glo_ok X G (cd.fact 31 (f := .glo "item_words") rfl)
  have b36 := F36.binds (ps := ["kind"]) fun _ _ _ _ _ _ us hl => match us, hl with | [_], _ => rfl
  obtain ⟨fd37, F37⟩ := cd.def_ 36 (d := d37) rfl
  have F37 := HE.fun_of (st := NN.sPtr) F37
  have m37 := He.glo_ok X G (cd.fact 32 (f := .glo "is_pointer") rfl)
  have b37 := F37.binds (ps := ["pointer"]) fun _ _ _ _ _ _ us hl => match us, hl with | [_], _ => rfl
  obtain ⟨fd38, F38⟩ := cd.def_ 37 (d := d38) rfl
  have F38 := HE.fun_of (st := NN.sAsc) F38
  have F38 := HE.funC_of F38
  have m38 := He.glo_ok X G (cd.fact 33 (f := .glo "are_ascending") rfl)
  have b38 := F38.fun.binds (ps := ["items"]) fun _ _ _ _ _ _ us hl => match us, hl with | [_], _ => rfl
  obtain ⟨fd39, F39⟩ := cd.def_ 38 (d := d39) rfl
  have F39 := HE.fun_of (st := NN.sTo) F39
  have m39 := He.glo_ok X G (cd.fact 34 (f := .glo "to_block") rfl)
  have b39 := F39.binds (ps := ["kind", "items", "pointer"]) fun _ _ _ _ _ _ us hl => match us, hl with | [_, _, _], _ => rfl
  obtain ⟨fd40, F40⟩ := cd.def_ 39 (d := d40) rfl
  have F40 := HE.fun_of (st := NN.sRead) F40
  have m40 := He.glo_ok X G (cd.fact 35 (f := .glo "read_item") rfl)
  have b40 := F40.binds (ps := ["words"]) fun _ _ _ _ _ _ us hl => match us, hl with | [_], _ => rfl
  obtain ⟨fd41, F41⟩ := cd.def_ 40 (d := d41) rfl
  have F41 := HE.fun_of (st := NN.sFrom) F41
  have F41 := HE.funC_of F41
  have m41 := He.glo_ok X G (cd.fact 36 (f := .glo "from_block") rfl)
  have b41 := F41.fun.binds (ps := ["block"]) fun _ _ _ _ _ _ us hl => match us, hl with | [_], _ => rfl
  obtain ⟨fd42, F42⟩ := cd.def_ 41 (d := d42) rfl
  have F42 := HE.fun_of (st := NN.sOwn) F42
  have m42 := He.glo_ok X G (cd.fact 37 (f := .glo "own_pointer") rfl)
  have b42 := F42.binds (ps := ["block"]) fun _ _ _ _ _ _ us hl => match us, hl with | [_], _ => rfl
  obtain ⟨fd43, F43⟩ := cd.def_ 42 (d := d43) rfl
  have F43 := HE.fun_of (st := NN.sPtrs) F43
  have m43 := He.glo_ok X G (cd.fact 38 (f := .glo "pointers") rfl)
  have b43 := F43.binds (ps := ["block"]) fun _ _ _ _ _ _ us hl => match us, hl with | [_], _ => rfl
  obtain ⟨fd44, F44⟩ := cd.def_ 43 (d := d44) rfl
  have F44 := HE.fun_of (st := NN.sSplit) F44
  have m44 := He.glo_ok X G (cd.fact 39 (f := .glo "split_items") rfl)
  have b44 := F44.binds (ps := ["items", "most"]) fun _ _ _ _ _ _ us hl => match us, hl with | [_, _], _ => rfl
  obtain ⟨fd45, F45⟩ := cd.def_ 44 (d := d45) rfl
  have F45 := HE.fun_of (st := NN.sPlace) F45
  have m45 := He.glo_ok X G (cd.fact 40 (f := .glo "place_of") rfl)
  have b45 := F45.binds (ps := ["items", "key"]) fun _ _ _ _ _ _ us hl => match us, hl with | [_, _], _ => rfl
  obtain ⟨fd46, F46⟩ := cd.def_ 45 (d := d46) rfl
  have F46 := HE.fun_of (st := NN.sChild) F46
  have m46 := He.glo_ok X G (cd.fact 41 (f := .glo "child_of") rfl)
  have b46 := F46.binds (ps := ["items", "key"]) fun _ _ _ _ _ _ us hl => match us, hl with | [_, _], _ => rfl
  obtain ⟨fd47, F47⟩ := cd.def_ 46 (d := d47) rfl
  have F47 := HE.fun_of (st := sRn) F47
  have m47 := He.glo_ok X G (cd.fact 42 (f := .glo "read_node") rfl)
  have b47 := F47.binds (ps := ["store", "pointer"]) fun _ _ _ _ _ _ us hl => match us, hl with | [_, _], _ => rfl
  obtain ⟨fd48, F48⟩ := cd.def_ 47 (d := d48) rfl
  have F48 := HE.fun_of (st := sMn) F48
  have m48 := He.glo_ok X G (cd.fact 43 (f := .glo "make_node") rfl)
  have b48 := F48.binds (ps := ["store", "kind", "items"]) fun _ _ _ _ _ _ us hl => match us, hl with | [_, _, _], _ => rfl
  obtain ⟨fd49, F49⟩ := cd.def_ 48 (d := d49) rfl
  have F49 := HE.fun_of (st := sWn) F49
  have m49 := He.glo_ok X G (cd.fact 44 (f := .glo "write_node") rfl)
  have b49 := F49.binds (ps := ["store", "kind", "items", "pointer"]) fun _ _ _ _ _ _ us hl => match us, hl with | [_, _, _, _], _ => rfl
  obtain ⟨fd50, F50⟩ := cd.def_ 49 (d := d50) rfl
  have F50 := HE.fun_of (st := sIi) F50
  have m50 := He.glo_ok X G (cd.fact 45 (f := .glo "inner_item") rfl)
  have b50 := F50.binds (ps := ["items", "pointer"]) fun _ _ _ _ _ _ us hl => match us, hl with | [_, _], _ => rfl
  obtain ⟨fd51, F51⟩ := cd.def_ 50 (d := d51) rfl
  have F51 := HE.fun_of (st := sOn) F51
  have m51 := He.glo_ok X G (cd.fact 46 (f := .glo "own_node") rfl)
  have b51 := F51.binds (ps := ["store", "pointer"]) fun _ _ _ _ _ _ us hl => match us, hl with | [_, _], _ => rfl
  obtain ⟨fd52, F52⟩ := cd.def_ 51 (d := d52) rfl
  have F52 := HE.fun_of (st := sEt) F52
  have m52 := He.glo_ok X G (cd.fact 47 (f := .glo "empty_tree") rfl)
  have b52 := F52.binds (ps := ["store"]) fun _ _ _ _ _ _ us hl => match us, hl with | [_], _ => rfl
  obtain ⟨fd53, F53⟩ := cd.def_ 52 (d := d53) rfl
  have F53 := HE.fun_of (st := sHk) F53
  have m53 := He.glo_ok X G (cd.fact 48 (f := .glo "has_key_at") rfl)
  have b53 := F53.binds (ps := ["items", "at", "key"]) fun _ _ _ _ _ _ us hl => match us, hl with | [_, _, _], _ => rfl
  obtain ⟨fd54, F54⟩ := cd.def_ 53 (d := d54) rfl
  have F54 := HE.fun_of (st := sLu) F54
  have m54 := He.glo_ok X G (cd.fact 49 (f := .glo "look_up") rfl)
  have b54 := F54.binds (ps := ["store", "root", "key"]) fun _ _ _ _ _ _ us hl => match us, hl with | [_, _, _], _ => rfl
  obtain ⟨fd55, F55⟩ := cd.def_ 54 (d := d55) rfl
  have F55 := HE.fun_of (st := sPu) F55
  have m55 := He.glo_ok X G (cd.fact 50 (f := .glo "put") rfl)
  have b55 := F55.binds (ps := ["store", "root", "key", "value"]) fun _ _ _ _ _ _ us hl => match us, hl with | [_, _, _, _], _ => rfl
  obtain ⟨fd56, F56⟩ := cd.def_ 55 (d := d56) rfl
  have F56 := HE.fun_of (st := sPb) F56
  have m56 := He.glo_ok X G (cd.fact 51 (f := .glo "put_below") rfl)
  have b56 := F56.binds (ps := ["store", "pointer", "key", "value"]) fun _ _ _ _ _ _ us hl => match us, hl with | [_, _, _, _], _ => rfl
  obtain ⟨fd57, F57⟩ := cd.def_ 56 (d := d57) rfl
  have F57 := HE.fun_of (st := sWs) F57
  have m57 := He.glo_ok X G (cd.fact 52 (f := .glo "write_split") rfl)
  have b57 := F57.binds (ps := ["store", "kind", "items", "pointer"]) fun _ _ _ _ _ _ us hl => match us, hl with | [_, _, _, _], _ => rfl
  obtain ⟨fd58, F58⟩ := cd.def_ 57 (d := d58) rfl
  have F58 := HE.fun_of (st := sTa) F58
  have m58 := He.glo_ok X G (cd.fact 53 (f := .glo "take") rfl)
  have b58 := F58.binds (ps := ["store", "root", "key"]) fun _ _ _ _ _ _ us hl => match us, hl with | [_, _, _], _ => rfl
  obtain ⟨fd59, F59⟩ := cd.def_ 58 (d := d59) rfl
  have F59 := HE.fun_of (st := sTb) F59
  have m59 := He.glo_ok X G (cd.fact 54 (f := .glo "take_below") rfl)
  have b59 := F59.binds (ps := ["store", "pointer", "key"]) fun _ _ _ _ _ _ us hl => match us, hl with | [_, _, _], _ => rfl
  obtain ⟨fd60, F60⟩ := cd.def_ 59 (d := d60) rfl
  have F60 := HE.fun_of (st := sWc) F60
  have m60 := He.glo_ok X G (cd.fact 55 (f := .glo "with_child") rfl)
  have b60 := F60.binds (ps := ["store", "items", "at", "child"]) fun _ _ _ _ _ _ us hl => match us, hl with | [_, _, _, _], _ => rfl
  obtain ⟨fd61, F61⟩ := cd.def_ 60 (d := d61) rfl
  have F61 := HE.fun_of (st := sJc) F61
  have m61 := He.glo_ok X G (cd.fact 56 (f := .glo "join_children") rfl)
  have b61 := F61.binds (ps := ["store", "items", "at"]) fun _ _ _ _ _ _ us hl => match us, hl with | [_, _, _], _ => rfl
  obtain ⟨fd62, F62⟩ := cd.def_ 61 (d := d62) rfl
  have F62 := HE.fun_of (st := sWo) F62
  have m62 := He.glo_ok X G (cd.fact 57 (f := .glo "without_old_roots") rfl)
  have b62 := F62.binds (ps := ["store", "root"]) fun _ _ _ _ _ _ us hl => match us, hl with | [_, _], _ => rfl
  obtain ⟨fd63, F63⟩ := cd.def_ 62 (d := d63) rfl
  have F63 := HE.fun_of (st := sRp) F63
  have m63 := He.glo_ok X G (cd.fact 58 (f := .glo "release_pointer") rfl)
  have b63 := F63.binds (ps := ["store", "pointer", "is_node"]) fun _ _ _ _ _ _ us hl => match us, hl with | [_, _, _], _ => rfl
  obtain ⟨fd64, F64⟩ := cd.def_ 63 (d := d64) rfl
  have F64 := HE.fun_of (st := sHe) F64
  have m64 := He.glo_ok X G (cd.fact 59 (f := .glo "height") rfl)
  have b64 := F64.binds (ps := ["store", "root"]) fun _ _ _ _ _ _ us hl => match us, hl with | [_, _], _ => rfl
  obtain ⟨fd65, F65⟩ := cd.def_ 64 (d := d65) rfl
  have F65 := HE.fun_of (st := sNp) F65
  have m65 := He.glo_ok X G (cd.fact 60 (f := .glo "node_pointers") rfl)
  have b65 := F65.binds (ps := ["store", "root"]) fun _ _ _ _ _ _ us hl => match us, hl with | [_, _], _ => rfl
  obtain ⟨fd66, F66⟩ := cd.def_ 65 (d := d66) rfl
  have F66 := HE.fun_of (st := sCl) F66
  have m66 := He.glo_ok X G (cd.fact 61 (f := .glo "_law_cell") rfl)
  have b66 := F66.binds (ps := ["script", "k"]) fun _ _ _ _ _ _ us hl => match us, hl with | [_, _], _ => rfl
  obtain ⟨fd67, F67⟩ := cd.def_ 66 (d := d67) rfl
  have F67 := HE.fun_of (st := sLst) F67
  have m67 := He.glo_ok X G (cd.fact 62 (f := .glo "_law_store") rfl)
  have b67 := F67.binds (ps := ["blocks", "generation"]) fun _ _ _ _ _ _ us hl => match us, hl with | [_, _], _ => rfl
  obtain ⟨fd68, F68⟩ := cd.def_ 67 (d := d68) rfl
  have F68 := HE.fun_of (st := sDe) F68
  have m68 := He.glo_ok X G (cd.fact 63 (f := .glo "_law_deeds") rfl)
  have b68 := F68.binds (ps := ["script"]) fun _ _ _ _ _ _ us hl => match us, hl with | [_], _ => rfl
  obtain ⟨fd69, F69⟩ := cd.def_ 68 (d := d69) rfl
  have F69 := HE.fun_of (st := sKe) F69
  have m69 := He.glo_ok X G (cd.fact 64 (f := .glo "_law_key") rfl)
  have b69 := F69.binds (ps := ["script", "index"]) fun _ _ _ _ _ _ us hl => match us, hl with | [_, _], _ => rfl
  obtain ⟨fd70, F70⟩ := cd.def_ 69 (d := d70) rfl
  have F70 := HE.fun_of (st := sLp) F70
  have m70 := He.glo_ok X G (cd.fact 65 (f := .glo "_law_parts") rfl)
  have b70 := F70.binds (ps := ["words"]) fun _ _ _ _ _ _ us hl => match us, hl with | [_], _ => rfl
  obtain ⟨fd71, F71⟩ := cd.def_ 70 (d := d71) rfl
  have F71 := HE.fun_of (st := sLs) F71
  have m71 := He.glo_ok X G (cd.fact 66 (f := .glo "_law_sound") rfl)
  have b71 := F71.binds (ps := ["words", "pointer", "top", "low"]) fun _ _ _ _ _ _ us hl => match us, hl with | [_, _, _, _], _ => rfl
  obtain ⟨fd72, F72⟩ := cd.def_ 71 (d := d72) rfl
  have F72 := HE.fun_of (st := sLw) F72
  have m72 := He.glo_ok X G (cd.fact 67 (f := .glo "_law_walk") rfl)
  have b72 := F72.binds (ps := ["store", "root"]) fun _ _ _ _ _ _ us hl => match us, hl with | [_, _], _ => rfl
  obtain ⟨fd73, F73⟩ := cd.def_ 72 (d := d73) rfl
  have F73 := HE.fun_of (st := sLaw) F73
  have m73 := He.glo_ok X G (cd.fact 68 (f := .glo "law") rfl)
  have bl := HE.binds1 (y := "script") F73 fun _ _ _ _ _ _ _ => rfl
  have e := hfa.symm.trans m73
  cases e
  have clD := He.cls_ok (cd.fact 102 (f := .cls "Disk") rfl)
  have n0D := He.noat_ok (cd.fact 104 (f := .noat "Disk" "blocks") rfl)
  have n1D := He.noat_ok (cd.fact 105 (f := .noat "Disk" "_kept") rfl)
  have n2D := He.noat_ok (cd.fact 106 (f := .noat "Disk" "_shown") rfl)
  have n3D := He.noat_ok (cd.fact 107 (f := .noat "Disk" "_writes") rfl)
  have n4D := He.noat_ok (cd.fact 108 (f := .noat "Disk" "_powered") rfl)
  have n5D := He.noat_ok (cd.fact 109 (f := .noat "Disk" "_before_failure") rfl)
  have mgD := He.glo_ok X G (cd.fact 101 (f := .glo "Disk") rfl)
  have MD := He.mkr_ok (cd.fact 110 (f := .mkr "Disk") rfl)
  have clS := He.cls_ok (cd.fact 112 (f := .cls "Space") rfl)
  have n0S := He.noat_ok (cd.fact 114 (f := .noat "Space" "blocks") rfl)
  have n1S := He.noat_ok (cd.fact 115 (f := .noat "Space" "_counts") rfl)
  have n2S := He.noat_ok (cd.fact 116 (f := .noat "Space" "_held") rfl)
  have mgS := He.glo_ok X G (cd.fact 111 (f := .glo "Space") rfl)
  have MS := He.mkr_ok (cd.fact 117 (f := .mkr "Space") rfl)
  have clH := He.cls_ok (cd.fact 119 (f := .cls "Head") rfl)
  have n0H := He.noat_ok (cd.fact 121 (f := .noat "Head" "generation") rfl)
  have n1H := He.noat_ok (cd.fact 122 (f := .noat "Head" "table") rfl)
  have n2H := He.noat_ok (cd.fact 123 (f := .noat "Head" "blocks") rfl)
  have mgH := He.glo_ok X G (cd.fact 118 (f := .glo "Head") rfl)
  have MH := He.mkr_ok (cd.fact 124 (f := .mkr "Head") rfl)
  have clT := He.cls_ok (cd.fact 126 (f := .cls "Store") rfl)
  have n0T := He.noat_ok (cd.fact 128 (f := .noat "Store" "disk") rfl)
  have n1T := He.noat_ok (cd.fact 129 (f := .noat "Store" "head") rfl)
  have n2T := He.noat_ok (cd.fact 130 (f := .noat "Store" "space") rfl)
  have n3T := He.noat_ok (cd.fact 131 (f := .noat "Store" "table") rfl)
  have n4T := He.noat_ok (cd.fact 132 (f := .noat "Store" "reserve") rfl)
  have n5T := He.noat_ok (cd.fact 133 (f := .noat "Store" "_memory") rfl)
  have mgT := He.glo_ok X G (cd.fact 125 (f := .glo "Store") rfl)
  have MT := He.mkr_ok (cd.fact 134 (f := .mkr "Store") rfl)
  have ex := c.more
  unfold exL at ex
  obtain ⟨xdN, ex⟩ := He.ba ex
  obtain ⟨xdS, ex⟩ := He.ba ex
  obtain ⟨xdO, ex⟩ := He.ba ex
  obtain ⟨kNK, ex⟩ := He.ba ex
  have XN := HE.xc_of X G (cd.fact 135 (f := .glo "NotValid") rfl) (cd.fact 136 (f := .exc "NotValid") rfl) xdN
  have XS := HE.xc_of X G (cd.fact 137 (f := .glo "NoSpace") rfl) (cd.fact 138 (f := .exc "NoSpace") rfl) xdS
  have XO := HE.xc_of X G (cd.fact 139 (f := .glo "PowerOff") rfl) (cd.fact 140 (f := .exc "PowerOff") rfl) xdO
  have kNK := NR.keysC_ok kNK
  have T : NT.Txt mg := ⟨He.free_ok X G (cd.fact 69 (f := .free "len") rfl), He.free_ok X G (cd.fact 70 (f := .free "range") rfl), He.free_ok X G (cd.fact 71 (f := .free "list") rfl), He.free_ok X G (cd.fact 72 (f := .free "tuple") rfl), He.free_ok X G (cd.fact 73 (f := .free "sorted") rfl), He.free_ok X G (cd.fact 74 (f := .free "isinstance") rfl), He.free_ok X G (cd.fact 75 (f := .free "abs") rfl), He.free_ok X G (cd.fact 76 (f := .free "int") rfl), He.free_ok X G (cd.fact 77 (f := .free "bool") rfl), He.free_ok X G (cd.fact 78 (f := .free "min") rfl), He.free_ok X G (cd.fact 79 (f := .free "max") rfl), He.int_ok X G (cd.fact 83 (f := .int "BLOCK_WORDS" 32) rfl), He.int_ok X G (cd.fact 84 (f := .int "BLOCK_SECTORS" 4) rfl), He.int_ok X G (cd.fact 85 (f := .int "FIRST_BLOCK" 5) rfl), He.int_ok X G (cd.fact 86 (f := .int "ADD" 60) rfl)⟩
  have TD : ND.Txt mg K (He.ga K "Disk") := ⟨T.len, T.range, T.list, T.isinstance, He.free_ok X G (cd.fact 80 (f := .free "zip") rfl), T.int, T.bool, He.free_ok X G (cd.fact 81 (f := .free "all") rfl), He.int_ok X G (cd.fact 87 (f := .int "MIN_BLOCKS" 96) rfl), He.int_ok X G (cd.fact 88 (f := .int "MAX_BLOCKS" 256) rfl), He.int_ok X G (cd.fact 89 (f := .int "SECTOR_WORDS" 8) rfl), T.gBLOCK_SECTORS, clD, n0D, n1D, n2D, n3D, n4D, n5D, mgD⟩
  have TS : NS.Txt mg K (He.ga K "Space") := ⟨T.len, T.range, T.list, T.isinstance, TD.zip, T.int, T.bool, T.gFIRST_BLOCK, clS, n0S, n1S, n2S, mgS⟩
  have TT : NT.TxT mg K (He.ga K "Store") := ⟨clT, n0T, n1T, n2T, n3T, n4T, n5T, mgT⟩
  have TH : NT.TxH mg K (He.ga K "Head") := ⟨clH, n0H, n1H, n2H, mgH⟩
  have TN : NN.Txt mg K (He.ga K "NODE_KEYS") := ⟨T.len, T.range, TD.all, He.free_ok X G (cd.fact 82 (f := .free "any") rfl), T.tuple, T.list, T.isinstance, He.int_ok X G (cd.fact 90 (f := .int "LEAF" 1) rfl), He.int_ok X G (cd.fact 91 (f := .int "INNER" 2) rfl), He.int_ok X G (cd.fact 92 (f := .int "LEAF_ITEMS" 4) rfl), He.int_ok X G (cd.fact 93 (f := .int "INNER_ITEMS" 5) rfl), He.int_ok X G (cd.fact 94 (f := .int "LEAF_ITEM_WORDS" 7) rfl), He.int_ok X G (cd.fact 95 (f := .int "INNER_ITEM_WORDS" 5) rfl), He.int_ok X G (cd.fact 96 (f := .int "KEY_WORDS" 3) rfl), He.int_ok X G (cd.fact 97 (f := .int "FIRST_ITEM" 4) rfl), He.int_ok X G (cd.fact 98 (f := .int "DATA_KEY" 3) rfl), T.gBLOCK_WORDS, T.gFIRST_BLOCK, He.int_ok X G (cd.fact 88 (f := .int "MAX_BLOCKS" 256) rfl), T.max, He.glo_ok X G (cd.fact 100 (f := .glo "NODE_KEYS") rfl), kNK⟩
  have tLI := He.int_ok X G (cd.fact 99 (f := .int "LEAST_ITEMS" 2) rfl)
  have tSorted := He.free_ok X G (cd.fact 73 (f := .free "sorted") rfl)
  have tMin := He.free_ok X G (cd.fact 78 (f := .free "min") rfl)
  refine ⟨fd73, [He.cT K ("are_ascending", none), He.cT K ("from_block", none), He.cT K ("are_words", none)], spLaw K (He.cT K ("are_ascending", none)).2 (He.cT K ("from_block", none)).2 (He.cT K ("are_words", none)).2, fun p hp => ?_, bl, fun H a ns hl hT hS Q q => ⟨a, ns, rfl, hS, hl, hT (He.cT K ("are_ascending", none)) (by simp), hT (He.cT K ("from_block", none)) (by simp), hT (He.cT K ("are_words", none)) (by simp), q⟩, fun base hKb hGb hTB => ?_⟩
  · obtain ⟨t, ht, rfl⟩ : ∃ t ∈ tfL, He.cT K t = p := by
      simp only [List.mem_cons, List.not_mem_nil, or_false] at hp
      rcases hp with hp | hp | hp
      · exact ⟨("are_ascending", none), by simp [tfL], hp.symm⟩
      · exact ⟨("from_block", none), by simp [tfL], hp.symm⟩
      · exact ⟨("are_words", none), by simp [tfL], hp.symm⟩
    exact ⟨c.empty t ht, c.out t ht, PySem.W.codeHd_of_K X (c.hd t ht)⟩
  · have B1 : LamX.TabB base mg (He.codeOf K ("are_ascending", none)) (He.cT K ("are_ascending", none)).2 := hTB (He.cT K ("are_ascending", none)) (by simp)
    have B2 : LamX.TabB base mg (He.codeOf K ("from_block", none)) (He.cT K ("from_block", none)).2 := hTB (He.cT K ("from_block", none)) (by simp)
    have B3 : LamX.TabB base mg (He.codeOf K ("are_words", none)) (He.cT K ("are_words", none)).2 := hTB (He.cT K ("are_words", none)) (by simp)
    exact (have GND_ok_iw := ND.ok_iw (P := l.prog) (w := w) (base := base) F1 TD; have GND_ok_are := ND.ok_are (P := l.prog) (w := w) (base := base) F2 B3 TD F1 b1 m1; have GND_ok_size := ND.ok_size (P := l.prog) (w := w) (base := base) F3 F1 b1 m1 TD; have GND_ok_sec := ND.ok_sec (P := l.prog) (w := w) (base := base) F6 F1 b1 m1 TD; have GND_ok_beg := ND.ok_beg (P := l.prog) (w := w) (base := base) F7 TD XO; have GND_ok_read := ND.ok_read (P := l.prog) (w := w) (base := base) F5 GND_ok_sec b6 m6 TD XO XN; have GND_ok_init := ND.ok_init (P := l.prog) (w := w) (base := base) F4 F3 GND_ok_size b3 m3 TD XN; have GNS_ok_iw := NS.ok_iw (P := l.prog) (w := w) (base := base) F1 TS; have GNS_ok_ce := NS.ok_ce (P := l.prog) (w := w) (base := base) F18 F1 b1 m1 TS XN; have GNS_ok_ck := NS.ok_ck (P := l.prog) (w := w) (base := base) F19 GNS_ok_ce b18 m18 TS XN; have GNS_ok_uses := NS.ok_uses (P := l.prog) (w := w) (base := base) F13 GNS_ok_ce b18 m18 TS; have GNS_ok_isnew := NS.ok_isnew (P := l.prog) (w := w) (base := base) F14 GNS_ok_uses b13 m13 TS; have GNS_ok_isfree := NS.ok_isfree (P := l.prog) (w := w) (base := base) F15 GNS_ok_uses b13 m13 TS; have GNS_ok_cu := NS.ok_cu (P := l.prog) (w := w) (base := base) F17 TS; have GNS_ok_free := NS.ok_free (P := l.prog) (w := w) (base := base) F16 GNS_ok_cu b17 m17 TS; have GNS_ok_least := NS.ok_least (P := l.prog) (w := w) (base := base) F10 GNS_ok_isfree b15 m15 TS; have GNS_ok_take := NS.ok_take (P := l.prog) (w := w) (base := base) F9 GNS_ok_free b16 m16 GNS_ok_least b10 m10 TS XS; have GNS_ok_share := NS.ok_share (P := l.prog) (w := w) (base := base) F11 GNS_ok_ck b19 m19 TS; have GNS_ok_drop := NS.ok_drop (P := l.prog) (w := w) (base := base) F12 GNS_ok_ck b19 m19 TS; have GNS_ok_init := NS.ok_init (P := l.prog) (w := w) (base := base) F8 TS; have GNT_ok_rb := NT.ok_rb (P := l.prog) (w := w) (base := base) (c := ⟨He.ga K "Store", He.ga K "Head", He.ga K "Space", He.ga K "Disk"⟩) F20 GND_ok_read b5 m5 T TD; have GNT_ok_gen := NT.ok_gen (P := l.prog) (w := w) (base := base) (c := ⟨He.ga K "Store", He.ga K "Head", He.ga K "Space", He.ga K "Disk"⟩) F24 TT TH; have GNT_ok_free := NT.ok_free (P := l.prog) (w := w) (base := base) (c := ⟨He.ga K "Store", He.ga K "Head", He.ga K "Space", He.ga K "Disk"⟩) F34 GNS_ok_free b16 m16 TT TS; have GNT_ok_req := NT.ok_req (P := l.prog) (w := w) (base := base) (c := ⟨He.ga K "Store", He.ga K "Head", He.ga K "Space", He.ga K "Disk"⟩) F33 GNT_ok_free b34 m34 TT XS; have GNT_ok_sread := NT.ok_sread (P := l.prog) (w := w) (base := base) (c := ⟨He.ga K "Store", He.ga K "Head", He.ga K "Space", He.ga K "Disk"⟩) F25 F1 b1 m1 F20 GNT_ok_rb b20 m20 T TT TS TD XN; have GNT_ok_np := NT.ok_np (P := l.prog) (w := w) (base := base) (c := ⟨He.ga K "Store", He.ga K "Head", He.ga K "Space", He.ga K "Disk"⟩) F26 GNT_ok_req b33 m33 GNT_ok_req b33 m33 GNS_ok_least b10 m10 GNT_ok_gen b24 m24 TT TS; have GNT_ok_snew := NT.ok_snew (P := l.prog) (w := w) (base := base) (c := ⟨He.ga K "Store", He.ga K "Head", He.ga K "Space", He.ga K "Disk"⟩) F28 GNS_ok_isnew b14 m14 GNS_ok_uses b13 m13 TT TS; have GNT_ok_suses := NT.ok_suses (P := l.prog) (w := w) (base := base) (c := ⟨He.ga K "Store", He.ga K "Head", He.ga K "Space", He.ga K "Disk"⟩) F32 GNS_ok_uses b13 m13 TT TS; have GNT_ok_ur := NT.ok_ur (P := l.prog) (w := w) (base := base) (c := ⟨He.ga K "Store", He.ga K "Head", He.ga K "Space", He.ga K "Disk"⟩) F23 TT; have GNT_ok_sshare := NT.ok_sshare (P := l.prog) (w := w) (base := base) (c := ⟨He.ga K "Store", He.ga K "Head", He.ga K "Space", He.ga K "Disk"⟩) F30 GNS_ok_share b11 m11 TT TS; have GNT_ok_sdrop := NT.ok_sdrop (P := l.prog) (w := w) (base := base) (c := ⟨He.ga K "Store", He.ga K "Head", He.ga K "Space", He.ga K "Disk"⟩) F31 GNS_ok_drop b12 m12 TT TS; have GNT_ok_make := NT.ok_make (P := l.prog) (w := w) (base := base) (c := ⟨He.ga K "Store", He.ga K "Head", He.ga K "Space", He.ga K "Disk"⟩) F27 F2.fun GND_ok_are b2 m2 GNS_ok_take b9 m9 GNT_ok_gen b24 m24 T TT TS XN; have GNT_ok_swrite := NT.ok_swrite (P := l.prog) (w := w) (base := base) (c := ⟨He.ga K "Store", He.ga K "Head", He.ga K "Space", He.ga K "Disk"⟩) F29 F2.fun GND_ok_are b2 m2 GNT_ok_snew b28 m28 T TT XN; have GNT_ok_hin := NT.ok_hin (P := l.prog) (w := w) (base := base) (c := ⟨He.ga K "Store", He.ga K "Head", He.ga K "Space", He.ga K "Disk"⟩) F21 TH; have GNT_ok_tin := NT.ok_tin (P := l.prog) (w := w) (base := base) (c := ⟨He.ga K "Store", He.ga K "Head", He.ga K "Space", He.ga K "Disk"⟩) F22 T TT TH; have GNN_ok_most := NN.ok_most (P := l.prog) (w := w) (base := base) F35 TN; have GNN_ok_iwd := NN.ok_iwd (P := l.prog) (w := w) (base := base) F36 TN; have GNN_ok_ptr := NN.ok_ptr (P := l.prog) (w := w) (base := base) F37 TN; have GNN_ok_own := NN.ok_own (P := l.prog) (w := w) (base := base) F42 TN; have GNN_ok_asc := NN.ok_asc (P := l.prog) (w := w) (base := base) F38 B1 TN; have GNN_ok_read := NN.ok_read (P := l.prog) (w := w) (base := base) F40 TN; have GNN_ok_to := NN.ok_to (P := l.prog) (w := w) (base := base) F39 F35 b35 m35 F38.fun GNN_ok_asc b38 m38 TN; have GNN_ok_from := NN.ok_from (P := l.prog) (w := w) (base := base) F41 B2 F35 b35 m35 F38.fun GNN_ok_asc b38 m38 F36 b36 m36 F37 b37 m37 F40 b40 m40 F42 b42 m42 TN; have GNN_ok_ps := NN.ok_ps (P := l.prog) (w := w) (base := base) F43 F41.fun GNN_ok_from b41 m41 TN; have GNN_ok_place := NN.ok_place (P := l.prog) (w := w) (base := base) F45 TN; have GNN_ok_child := NN.ok_child (P := l.prog) (w := w) (base := base) F46 TN; have GNN_ok_split := NN.ok_split (P := l.prog) (w := w) (base := base) F44 TN; have GNR_ok_ii := NR.ok_ii (P := l.prog) (w := w) (base := base) F50; have GNR_ok_hk := NR.ok_hk (P := l.prog) (w := w) (base := base) F53 TN; have GNR_ok_rn := NR.ok_rn (P := l.prog) (w := w) (base := base) (c := ⟨He.ga K "Store", He.ga K "Head", He.ga K "Space", He.ga K "Disk"⟩) F47 F41.fun GNN_ok_from b41 m41 GNT_ok_sread b25 m25 TT; have GNR_ok_mn := NR.ok_mn (P := l.prog) (w := w) (base := base) (c := ⟨He.ga K "Store", He.ga K "Head", He.ga K "Space", He.ga K "Disk"⟩) F48 F39 GNN_ok_to b39 m39 GNT_ok_np b26 m26 GNT_ok_make b27 m27 TT; have GNR_ok_wn := NR.ok_wn (P := l.prog) (w := w) (base := base) (c := ⟨He.ga K "Store", He.ga K "Head", He.ga K "Space", He.ga K "Disk"⟩) F49 F39 GNN_ok_to b39 m39 F50 GNR_ok_ii b50 m50 GNT_ok_swrite b29 m29 TT; have GNR_ok_on := NR.ok_on (P := l.prog) (w := w) (base := base) (c := ⟨He.ga K "Store", He.ga K "Head", He.ga K "Space", He.ga K "Disk"⟩) F51 GNT_ok_snew b28 m28 F47 GNR_ok_rn b47 m47 F48 GNR_ok_mn b48 m48 F43 GNN_ok_ps b43 m43 F63 (NR.fn_no (P := l.prog) (w := w) (base := base) (k := 0) F63 NR.scRp) b63 m63 GNT_ok_sread b25 m25 GNT_ok_sshare b30 m30 TT; have GNR_ok_et := NR.ok_et (P := l.prog) (w := w) (base := base) (c := ⟨He.ga K "Store", He.ga K "Head", He.ga K "Space", He.ga K "Disk"⟩) F52 F48 GNR_ok_mn b48 m48 TN; have GNR_ok_ws := NR.ok_ws (P := l.prog) (w := w) (base := base) (c := ⟨He.ga K "Store", He.ga K "Head", He.ga K "Space", He.ga K "Disk"⟩) F57 F44 GNN_ok_split b44 m44 F35 GNN_ok_most b35 m35 F49 GNR_ok_wn b49 m49 F50 GNR_ok_ii b50 m50 F48 GNR_ok_mn b48 m48; have GNR_ok_lu := NR.ok_lu (P := l.prog) (w := w) (base := base) (c := ⟨He.ga K "Store", He.ga K "Head", He.ga K "Space", He.ga K "Disk"⟩) F54 F47 GNR_ok_rn b47 m47 F46 GNN_ok_child b46 m46 F45 GNN_ok_place b45 m45 F53 GNR_ok_hk b53 m53 TN; have GNR_ok_pb := NR.ok_pb (P := l.prog) (w := w) (base := base) (c := ⟨He.ga K "Store", He.ga K "Head", He.ga K "Space", He.ga K "Disk"⟩) F56 b56 m56 F51 GNR_ok_on b51 m51 F47 GNR_ok_rn b47 m47 F45 GNN_ok_place b45 m45 F53 GNR_ok_hk b53 m53 F46 GNN_ok_child b46 m46 F57 GNR_ok_ws b57 m57 TN; have GNR_ok_pu := NR.ok_pu (P := l.prog) (w := w) (base := base) (c := ⟨He.ga K "Store", He.ga K "Head", He.ga K "Space", He.ga K "Disk"⟩) F55 F56 (GNR_ok_pb 5) b56 m56 F48 GNR_ok_mn b48 m48 TN; have GNR_ok_jc := NR.ok_jc (P := l.prog) (w := w) (base := base) (c := ⟨He.ga K "Store", He.ga K "Head", He.ga K "Space", He.ga K "Disk"⟩) F61 F51 GNR_ok_on b51 m51 F47 GNR_ok_rn b47 m47 F44 GNN_ok_split b44 m44 F35 GNN_ok_most b35 m35 F49 GNR_ok_wn b49 m49 GNT_ok_sdrop b31 m31 TT TN; have GNR_ok_wc := NR.ok_wc (P := l.prog) (w := w) (base := base) (c := ⟨He.ga K "Store", He.ga K "Head", He.ga K "Space", He.ga K "Disk"⟩) F60 F47 GNR_ok_rn b47 m47 F50 GNR_ok_ii b50 m50 F61 GNR_ok_jc b61 m61 TN tLI; have GNR_ok_tb := NR.ok_tb (P := l.prog) (w := w) (base := base) (c := ⟨He.ga K "Store", He.ga K "Head", He.ga K "Space", He.ga K "Disk"⟩) F59 b59 m59 F51 GNR_ok_on b51 m51 F47 GNR_ok_rn b47 m47 F45 GNN_ok_place b45 m45 F46 GNN_ok_child b46 m46 F60 GNR_ok_wc b60 m60 F39 GNN_ok_to b39 m39 GNT_ok_swrite b29 m29 TT TN; have GNR_ok_wo := NR.ok_wo (P := l.prog) (w := w) (base := base) (c := ⟨He.ga K "Store", He.ga K "Head", He.ga K "Space", He.ga K "Disk"⟩) F62 F47 GNR_ok_rn b47 m47 GNT_ok_sdrop b31 m31 TT TN; have GNR_ok_ta := NR.ok_ta (P := l.prog) (w := w) (base := base) (c := ⟨He.ga K "Store", He.ga K "Head", He.ga K "Space", He.ga K "Disk"⟩) F58 F54 GNR_ok_lu b54 m54 F62 GNR_ok_wo b62 m62 F59 (GNR_ok_tb 5) b59 m59; have GNR_ok_hgt := NR.ok_hgt (P := l.prog) (w := w) (base := base) (c := ⟨He.ga K "Store", He.ga K "Head", He.ga K "Space", He.ga K "Disk"⟩) F64 F47 GNR_ok_rn b47 m47 TN; have GNR_ok_npt := NR.ok_npt (P := l.prog) (w := w) (base := base) (c := ⟨He.ga K "Store", He.ga K "Head", He.ga K "Space", He.ga K "Disk"⟩) F65 b65 m65 F47 GNR_ok_rn b47 m47 TN; have GNR_ok_cl := NR.ok_cl (P := l.prog) (w := w) (base := base) F66 TN; have GNR_ok_ke := NR.ok_ke (P := l.prog) (w := w) (base := base) F69 F66 GNR_ok_cl b66 m66; have GNR_ok_de := NR.ok_de (P := l.prog) (w := w) (base := base) F68 F66 GNR_ok_cl b66 m66 TN; have GNR_ok_lst := NR.ok_lst (P := l.prog) (w := w) (base := base) (c := ⟨He.ga K "Store", He.ga K "Head", He.ga K "Space", He.ga K "Disk"⟩) F67 MD GND_ok_init b4 MH GNT_ok_hin b21 MS GNS_ok_init b8 MT GNT_ok_tin b22 GNT_ok_ur b23 m23 TT TH TS TD; have GNR_ok_lp := NR.ok_lp (P := l.prog) (w := w) (base := base) F70 TN; have GNR_ok_ls := NR.ok_ls (P := l.prog) (w := w) (base := base) F71 TN; have GNR_ok_lw := NR.ok_lw (P := l.prog) (w := w) (base := base) (c := ⟨He.ga K "Store", He.ga K "Head", He.ga K "Space", He.ga K "Disk"⟩) F72 GNT_ok_sread b25 m25 GNT_ok_suses b32 m32 F71 GNR_ok_ls b71 m71 F70 GNR_ok_lp b70 m70 TN TT tMin; NR.ok_law (P := l.prog) (w := w) (base := base) (c := ⟨He.ga K "Store", He.ga K "Head", He.ga K "Space", He.ga K "Disk"⟩) F73 F66 GNR_ok_cl b66 m66 F67 GNR_ok_lst b67 m67 F68 GNR_ok_de b68 m68 F69 GNR_ok_ke b69 m69 F52 GNR_ok_et b52 m52 F58 GNR_ok_ta b58 m58 F55 GNR_ok_pu b55 m55 F64 GNR_ok_hgt b64 m64 F65 (GNR_ok_npt 6) b65 m65 F72 GNR_ok_lw b72 m72 GNT_ok_free b34 m34 TT tSorted TN)
end NR
open PySem PySem.W PySem.Calls PyProof.Rows
set_option maxHeartbeats 0 in
theorem PySem.Challenge.cw_laminae_k14_whole_tree_stays_balanced_holds : PySem.Challenge.rw_laminae_k14_whole_tree_stays_balanced.Holds := by
  w_on; o_law
  refine HandSHeadRun.head_any (r := OpenLaw.row PySem.Challenge.rw_laminae_k14_whole_tree_stays_balanced) (q := view (OpenLaw.row PySem.Challenge.rw_laminae_k14_whole_tree_stays_balanced).prog [80]) (H := NH.hk) (ob := NH.ob) (M := 7000) (loose := NH.looseL) (d := HandSHeadRun.topDef (OpenLaw.row PySem.Challenge.rw_laminae_k14_whole_tree_stays_balanced).prog 80) (kwd := []) NH.ob_eq
    (by kernel_rfl) (fun s => by kernel_rfl) NH.run (by kernel_rfl) (by kernel_rfl) (by kernel_rfl) (by rfl) (by first | assumption | decide +kernel) (by decide +kernel) ⟨rfl, rfl, rfl, rfl, rfl, by decide +kernel⟩ ?hw ?hc
  case hw => w_witness2
  case hc =>
    refine HE.walk_facts (l := PySem.Challenge.rw_laminae_k14_whole_tree_stays_balanced) (n := 63) (k := 20) (x := "script") rfl (by decide) (by kernel_rfl) ⟨rfl, by decide, by decide⟩ ?F
    intro w mg fa h Y G hmg0
    obtain ⟨K, KX, c⟩ := Y
    have hmg : mg ("law" : PySem.Str) = some (.ref fa) := by
      have e : (HandSHeadRun.topDef (OpenLaw.row PySem.Challenge.rw_laminae_k14_whole_tree_stays_balanced).prog 80).name = ("law" : PySem.Str) := by kernel_rfl
      rw [← e]
      exact hmg0
    obtain ⟨fd, cs, sp, h1, h2, h3, h4⟩ := NR.facts (l := PySem.Challenge.rw_laminae_k14_whole_tree_stays_balanced) KX G hmg c
    exact ⟨K, fd, cs, sp, KX, h1, h2, h3, h4⟩

