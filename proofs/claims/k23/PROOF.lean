import PyProof.Rows.All
import Wide.All
import OpenK.AllK
import Wide.FinOn
import HandS.ForMost
import HandS.Evl
import HandS.TupLe
import HandS.IsInst
import HandS.AnyAll
import HandS.EndOwn
import HandS.StrMore
import HandS.Conv
import HandS.Sort
import HandS.Star
import HandS.WordsExc
import HandS.ExcIs
import HandS.Wide
import HandS.ExcOwn
import HandS.TryOnly
import HandS.GenList
import HandS.HotCalls
import HandS.Walk
import PyProof.WalksPairs
import KE.GoesZip
import KE.GoesMore
import KE.KTurns
import KE.KUnpackStar
import HandS.More
import KE.KStateDown
import Lean
import HandS.Defaults
import HandS.Head0
import HandS.Head1
import HandS.Head2
import HandS.Head3
import HandS.HeadEnd
import HandS.HeadHook1
import HandS.HeadHook2
import HandS.HeadHook3
import HandS.HeadHook4
import HandS.HeadWalk
import HandS.Lambda
import HandS.EndTab
import PySem.Challenge.RW_laminae_k23_store
set_option Elab.async false
set_option linter.all false
set_option maxRecDepth 100000
set_option maxHeartbeats 4000000
namespace LT
open PySem PySem.Spec PyProof.Rows L2 Evl
/-! ### the table of a code object: whatever it holds -/
def TabPhi (P : Addr) (h : Heap) : Prop := ∃ ps : Array Value, h.get? P = some { cls := .none, data := .fields ps } ∧ TriplesOk ps.toList
def Tab (H : Hp) (P : Addr) : Prop := H P = some (.ext (TabPhi P))
theorem tab_stab (P : Addr) : ∀ h1 h2 : Heap, TabPhi P h1 → (∀ o, h1.get? P = some o → h2.get? P = some o) → TabPhi P h2 := fun _ _ ⟨ps, e, t⟩ k => ⟨ps, k _ e, t⟩
theorem tab_ok {p : Program} {w : World} {H : Hp} {h : Heap} {P : Addr} (t : TabPhi P h) : ObjOk p w H h P (.ext (TabPhi P)) := ⟨t, ⟨_, t.choose_spec.1⟩, tab_stab P⟩
theorem Tab.of_ok {p : Program} {w : World} {H : Hp} {h : Heap} {P : Addr} (t : Tab H P) (ok : HOk p w H h) : TabPhi P h := (ok P _ t).1
theorem Tab.mono {H H' : Hp} {P : Addr} (e : Ex H H') (t : Tab H P) : Tab H' P := e _ _ t
open Classical in
def extH (Ps : List Addr) (H : Hp) : Hp := fun b => if b ∈ Ps then some (.ext (TabPhi b)) else H b
theorem extH_in {Ps : List Addr} {H : Hp} {b : Addr} (h : b ∈ Ps) : extH Ps H b = some (.ext (TabPhi b)) := if_pos h
theorem extH_out {Ps : List Addr} {H : Hp} {b : Addr} (h : b ∉ Ps) : extH Ps H b = H b := if_neg h
/-- a promise over heaps whose tables are opaque, for a caller whose tables are all empty -/
def spExt (Ps : List Addr) (sp : Sp) : Sp := fun vs H Q E => (∀ p ∈ Ps, H p = some (.tbl #[])) ∧ sp vs (extH Ps H) (fun v H' => (∀ p ∈ Ps, Tab H' p) ∧ ∀ H2, Q v H2) E
section
variable {P : Program} {w : World} {K : PySem.W.Frag} {mg : Str → Option Value} {base : Heap}
theorem ok_ext {Ps : List Addr} {k : Nat} {f : Addr} {fd : FuncData} {ps : List Str} {sp : Sp} (F : FnOk P w K mg base CX0 k f fd ps sp) : FnOk P w K mg base CX0 k f fd ps (spExt Ps sp) := by
  refine ⟨fun vs H Q E h => F.len _ _ _ _ h.2, fun A outer s H args us vs Q E hr e0 hb hv ⟨hT, hs⟩ => ?_⟩
  have none_ : ∀ {b : Addr}, H b = none → extH Ps H b = none := fun {b} n => by
    rw [extH_out fun hb => by rw [hT b hb] at n; cases n]
    exact n
  have same : ∀ {b : Addr} {u : HO}, H b = some u → (∀ q, u ≠ .tbl q) → extH Ps H b = some u := fun {b u} e n => by
    rw [extH_out fun hb => by rw [hT b hb] at e; exact n _ (Option.some.inj e).symm]
    exact e
  have ok1 : HOk P w (extH Ps H) s.heap := fun b u e => by
    by_cases hb : b ∈ Ps
    · rw [extH_in hb] at e
      cases e
      exact tab_ok ⟨#[], e0.hok b _ (hT b hb), by simp [TriplesOk]⟩
    · rw [extH_out hb] at e
      exact (e0.hok b u e).stay (fun _ _ _ q => q) (fun c q => same q (fun z y => by cases y)) fun c xs q => same q (fun z y => by cases y)
  have e1 : Env0 P w K mg base A outer s (extH Ps H) := ⟨e0.frames, e0.mod, fun b o e => ⟨(e0.bs b o e).1, none_ (e0.bs b o e).2⟩, e0.bsz, e0.funs, fun b hb => none_ (e0.frf b hb), ok1, e0.bare⟩
  refine codeAny_mono (F.run A outer s (extH Ps H) args us vs _ E hr e1 hb hv hs) fun r s' h => ?_
  cases r with
  | error e => exact h.elim
  | ok fl =>
    cases fl with
    | next => exact h
    | brk => exact h
    | cont => exact h
    | ret u =>
      obtain ⟨v, H', os, bare, un, ok', rv, hTab, q⟩ := h
      have more : ∀ p ∈ Ps, TabPhi p s'.heap := fun p hp => (hTab p hp).of_ok ok'
      let H2 : Hp := fun b => if hb : b ∈ Ps then some (.tbl (more b hb).choose) else H' b
      have hin : ∀ {b : Addr} (hb : b ∈ Ps), H2 b = some (.tbl (more b hb).choose) := fun {b} hb => dif_pos hb
      have hout : ∀ {b : Addr}, b ∉ Ps → H2 b = H' b := fun {b} hb => dif_neg hb
      have keepH : ∀ {b : Addr} {u : HO}, H' b = some u → (∀ φ, u ≠ .ext φ) → H2 b = some u := fun {b u} e n => by
        rw [hout fun hb => by rw [hTab b hb] at e; exact n _ (Option.some.inj e).symm]
        exact e
      refine ⟨v, H2, os, bare, ⟨fun b o e n => un.keep b o e (none_ n), fun b o e n => un.slot b o e (none_ n), fun b o e n hx => ?_, un.there, fun b xs e => ?_, fun b o x e => ?_, fun b q e => ?_⟩, fun b y e => ?_, rv, q H2⟩
      · have n' := none_ n
        rw [hout fun hb => by rw [hT b hb] at n; cases n]
        exact un.free b o e n' hx
      · exact keepH (un.tups b xs (same e (fun z y => by cases y))) (fun z y => by cases y)
      · exact keepH (un.frzs b o x (same e (fun z y => by cases y))) (fun z y => by cases y)
      · by_cases hb : b ∈ Ps
        · rw [hT b hb] at e
          cases e
          exact ⟨(more b hb).choose, by rw [hin hb, Array.empty_append]⟩
        · obtain ⟨m, z⟩ := un.tbls b q (by rw [extH_out hb]; exact e)
          exact ⟨m, by rw [hout hb]; exact z⟩
      · by_cases hb : b ∈ Ps
        · rw [hin hb] at e
          cases e
          exact (more b hb).choose_spec.1
        · rw [hout hb] at e
          exact (ok' b y e).stay (fun _ _ _ q => q) (fun c q => keepH q (fun z y => by cases y)) fun c xs q => keepH q (fun z y => by cases y)
end
/-- the law's walk where top-level defs (names) hold generator expressions: their tables are empty at the start -/
theorem walk_tabs {l : PySem.W.OpenLaw} {n k : Nat} {q : Program} {loose : List Str} {XP : (Str → Option Value) → Heap → Prop} {YP : World → Heap → Prop} {d : DefRec} {K : Params → PySem.W.Frag} {x : Str} (names : List Str)
    (hn : l.most = some n) (hn2 : n ≤ sizeLine) (hdf : d.params.defaults = []) (hr : Room k callerA) (hrec : ∀ y ∈ names, ((recsOf q).find? fun e => e.name == y).isSome = true) (hY : ∀ (w : World) (h : Heap), YP w h → (K w.params).In h)
    (F : ∀ (w : World) (mg : Str → Option Value) (fa : Addr) (h : Heap), (K w.params).In h → h.Ns mainGlobals mg → mg d.name = some (.ref fa) →
      ∃ (fd : FuncData) (cs : List (Str × Addr × Addr)) (sp : Sp), (∀ p ∈ cs, p.1 ∈ names ∧ PySem.W.tabIn (K w.params) p.1 = some p.2 ∧ (K w.params).lookup p.2.2 = none) ∧ (∀ (s : Shared) (u : Value), BindsTo s fd ⟨[u], []⟩ [(x, u)]) ∧
        (∀ (H : Hp) (a : Addr) (ns : List Int), ns.length ≤ n → (∀ p ∈ cs, Tab H p.2.2) → SqL (K w.params) H a (ns.map V.int) → ∀ Q : VK, (∀ H', Ex H H' → Q (.bl true) H') → sp [.ref a] H Q fun _ _ _ => False) ∧
        ∀ base : Heap, (K w.params).In base → base.Ns mainGlobals mg → (∀ p ∈ cs, LamX.TabB base mg p.2.1 p.2.2) → FnOk l.prog w (K w.params) mg base CX0 k fa fd [x] sp) :
    PySem.W.WalkO q loose XP YP l.row.toRowW d [] (fun f vs => PySem.call f vs) := by
  refine Att.attach_callB hn hdf fun w s₀ s₁ mg mb fa o pm cd doc a vs ns G Y ho hd hcd hmg hobj hints hlen hbits hg => ?_
  have KX := hY w _ Y
  obtain ⟨fd, cs, sp, hcs, hb, hsp, hF⟩ := F w mg fa _ KX G.T.g hmg
  have two : ∀ p ∈ cs, PySem.W.CodeHd s₁.heap p.2.1 p.2.2 ∧ s₁.heap.get? p.2.2 = some { cls := .none, data := .fields #[] } := fun p hp => by
    obtain ⟨h1, h2, _⟩ := hcs p hp
    obtain ⟨e, he⟩ := Option.isSome_iff_exists.mp (hrec _ h1)
    exact PySem.W.tab_of G.T KX he h2
  have mem : ∀ y ∈ cs.map (fun p => (p.2.1, p.2.2)), ∃ p ∈ cs, p.2 = y := fun y hy => by
    obtain ⟨p, hp, e⟩ := List.mem_map.mp hy
    exact ⟨p, hp, by rw [← e]⟩
  have lim : ∀ b ∈ cs.map (fun p => p.2.2), ∃ p ∈ cs, p.2.2 = b := fun b hb => by
    obtain ⟨p, hp, e⟩ := List.mem_map.mp hb
    exact ⟨p, hp, e⟩
  refine LamX.law_callTs (cs := cs.map fun p => (p.2.1, p.2.2)) (CX := CX0) (sp := spExt (cs.map fun p => p.2.2) sp) KX G.T.g G.T.b G.T.builtins G.T.nolimit hg (fun y hy => ?_) (fun y hy => ?_) (fun y hy => ?_) G.T.bmain hobj hints (Nat.le_trans hlen hn2) hr
    (fun base h1 h2 h3 => ok_ext (hF base h1 h2 fun p hp => h3 (p.2.1, p.2.2) (List.mem_map.mpr ⟨p, hp, rfl⟩))) hb (fun H hH hS => ?_) fun H e s' z => z
  · obtain ⟨p, hp, rfl⟩ := mem y hy
    exact (two p hp).2
  · obtain ⟨p, hp, rfl⟩ := mem y hy
    exact (hcs p hp).2.2
  · obtain ⟨p, hp, rfl⟩ := mem y hy
    exact (two p hp).1
  · refine ⟨fun b hb => ?_, ?_⟩
    · obtain ⟨p, hp, rfl⟩ := lim b hb
      exact hH (p.2.1, p.2.2) (List.mem_map.mpr ⟨p, hp, rfl⟩)
    · have hnt : ∀ p ∈ cs, extH (cs.map fun p => p.2.2) H p.2.2 = some (.ext (TabPhi p.2.2)) := fun p hp => extH_in (List.mem_map.mpr ⟨p, hp, rfl⟩)
      refine hsp _ a ns hlen hnt ?_ _ fun H' e => ⟨fun b hb => ?_, fun _ => rfl⟩
      · rcases hS with (h | ⟨o, h⟩) | h
        · refine .inl (.inl ?_)
          rw [extH_out fun hb => ?_]
          · exact h
          · obtain ⟨p, hp, rfl⟩ := lim a hb
            rw [hH (p.2.1, p.2.2) (List.mem_map.mpr ⟨p, hp, rfl⟩)] at h
            cases h
        · refine .inl (.inr ⟨o, ?_⟩)
          rw [extH_out fun hb => ?_]
          · exact h
          · obtain ⟨p, hp, rfl⟩ := lim a hb
            rw [hH (p.2.1, p.2.2) (List.mem_map.mpr ⟨p, hp, rfl⟩)] at h
            cases h
        · exact .inr h
      · obtain ⟨p, hp, rfl⟩ := lim b hb
        exact e _ _ (hnt p hp)
end LT

set_option Elab.async false
set_option linter.all false
set_option maxRecDepth 100000
set_option maxHeartbeats 4000000
namespace LG
open PySem PySem.Spec PyProof.Rows L2 Evl LT
/-! ### generator expressions whose elements leave everything as it stands -/
theorem kp_tok (s : Shared) (k : Nat) : Keeps s { s with toks := k } := ⟨s.heap, k, rfl, fun _ _ e => e⟩
theorem kp_refl (s : Shared) : Keeps s s := kp_tok s s.toks
theorem kp_trans {s s1 s2 : Shared} (a : Keeps s s1) (b : Keeps s1 s2) : Keeps s s2 := by
  obtain ⟨h1, t1, rfl, k1⟩ := a
  obtain ⟨h2, t2, rfl, k2⟩ := b
  exact ⟨h2, t2, rfl, fun c o e => k2 c o (k1 c o e)⟩
theorem kp_at {s s1 : Shared} (a : Keeps s s1) : ∀ b o, s.heap.get? b = some o → s1.heap.get? b = some o := by
  obtain ⟨h1, t1, rfl, k1⟩ := a
  exact k1
def but (P : Addr) (H : Hp) : Hp := fun b => if b = P then none else H b
theorem but_ne {P b : Addr} {H : Hp} (h : b ≠ P) : but P H b = H b := if_neg h
/-- in the frame of a generator expression, at one turn: its name x holds u -/
structure Fc (X : Cx) (σ : L2.St) (H : Hp) (P : Addr) (scope : Scope) (x : Str) (u : Value) (cenv : Env) (A' : Around) (s₂ : Shared) (m₂ : Str → Option Value) : Prop where
  hd : A'.handled = none
  dp : A'.depth ≤ X.A.depth + 1
  un : A'.units ≤ X.A.units + 8
  sc : cenv.scope = scope
  gl : cenv.globals = mainGlobals
  bi : cenv.builtins = builtinsNs
  ns : s₂.heap.Ns cenv.locals m₂
  mx : m₂ x = some u
  base : ∀ b o, X.base.get? b = some o → s₂.heap.get? b = some o
  md : L2.Mod X.K X.mg X.base
  hok : HOk X.prog X.w (but P H) s₂.heap
  cap : ∀ (i : Nat) (y : Str) (v : V), X.N[i]? = some y → σ[i]? = some (some v) → (X.env.kindOf y = some .cell ∨ X.env.kindOf y = some .free) → scope.names.lookup y = some .free → ∃ r c, RelV v r ∧ cenv.cells.lookup y = some c ∧ s₂.heap.IsCell c (some r)
section
variable {X : Cx} {σ : L2.St} {H : Hp} {P : Addr} {scope : Scope} {x : Str} {u : Value} {cenv : Env} {A' : Around} {s₂ s₃ : Shared} {m₂ : Str → Option Value}
theorem Fc.keeps (F : Fc X σ H P scope x u cenv A' s₂ m₂) (k : Keeps s₂ s₃) : Fc X σ H P scope x u cenv A' s₃ m₂ :=
  have k' := kp_at k
  ⟨F.hd, F.dp, F.un, F.sc, F.gl, F.bi, (let ⟨o, es, ep, e, r⟩ := F.ns; ⟨o, es, ep, k' _ _ e, r⟩), F.mx, fun b o e => k' b o (F.base b o e), F.md, F.hok.kept k', fun i y v h1 h2 h3 h4 => by
    obtain ⟨r, c, a1, a2, o, a3, a4⟩ := F.cap i y v h1 h2 h3 h4
    exact ⟨r, c, a1, a2, o, k' _ _ a3, a4⟩⟩
theorem Fc.kin (F : Fc X σ H P scope x u cenv A' s₂ m₂) : X.K.In s₂.heap := F.md.kin.keeps F.base
theorem Fc.list (F : Fc X σ H P scope x u cenv A' s₂ m₂) (hT : Tab H P) {a : Addr} {xs : List V} (h : SqL X.K H a xs) : ∃ its : List Value, Vals xs its ∧ PlainL s₂.heap a its.toArray ∧ xs.length ≤ sizeLine := by
  have rd : ∀ {o : HO}, H a = some o → (∀ φ, o ≠ .ext φ) → but P H a = some o := fun {o} e n => by
    rw [but_ne fun z => by rw [z, hT] at e; exact n _ (Option.some.inj e).symm]
    exact e
  rcases h with (h | ⟨o, h⟩) | ⟨o, its, n, hk, hc, hd, hs, hz, r⟩
  · obtain ⟨z, its, n, r, e⟩ := F.hok a _ (rd h (fun φ z => by cases z))
    exact ⟨its, r, ⟨_, n, e, rfl, rfl, rfl⟩, z⟩
  · obtain ⟨_, z, its, n, r, e⟩ := F.hok a _ (rd h (fun φ z => by cases z))
    exact ⟨its, r, ⟨_, n, e, rfl, rfl, rfl⟩, z⟩
  · refine ⟨its.toList, r, ⟨o, n, F.kin a o hk, hc, hd, by simpa using hs⟩, ?_⟩
    have e := r.length
    simp only [Array.length_toList] at e
    omega
theorem Fc.tuple (F : Fc X σ H P scope x u cenv A' s₂ m₂) (hT : Tab H P) {a : Addr} {xs : List V} (h : SqT X.K H a xs) : ∃ its : List Value, Vals xs its ∧ IsTup s₂.heap a its.toArray ∧ xs.length ≤ sizeLine := by
  have rd : ∀ {o : HO}, H a = some o → (∀ φ, o ≠ .ext φ) → but P H a = some o := fun {o} e n => by
    rw [but_ne fun z => by rw [z, hT] at e; exact n _ (Option.some.inj e).symm]
    exact e
  rcases h with (h | ⟨o, h⟩) | ⟨o, its, n, hk, hc, hs, hz, r⟩
  · obtain ⟨z, its, r, p⟩ := F.hok a _ (rd h (fun φ z => by cases z))
    exact ⟨its, r, p, z⟩
  · obtain ⟨_, z, its, r, p⟩ := F.hok a _ (rd h (fun φ z => by cases z))
    exact ⟨its, r, p, z⟩
  · refine ⟨its.toList, r, ⟨o, F.kin a o hk, hc, n, by simpa using hs⟩, ?_⟩
    have e := r.length
    simp only [Array.length_toList] at e
    omega
end
/-- the expression has the value z there -/
def QV (X : Cx) (σ : L2.St) (H : Hp) (P : Addr) (scope : Scope) (x : Str) (u : Value) (e : Expr) (z : V) : Prop :=
  ∀ (cenv : Env) (A' : Around) (E' : Value → Shared → Prop) (s₂ : Shared) (m₂ : Str → Option Value), Fc X σ H P scope x u cenv A' s₂ m₂ → wpAny (model X.prog X.w) A' (eval e cenv) (fun y s₃ => RelV z y ∧ Keeps s₂ s₃) E' s₂
section
variable {X : Cx} {σ : L2.St} {H : Hp} {P : Addr} {scope : Scope} {x : Str} {u : Value} {a b : Expr} {za zb z : V} {pos : Pos}
theorem qv_x (hk : scope.kind = .function) (hl : scope.names.lookup x = some .local) (r : RelV z u) (hd : (x == ("__debug__" : Str)) = false := by decide) : QV X σ H P scope x u (.Name x pos) z := fun cenv A' E' s m F =>
  wpAny_Name (wpAny_loadName_local (by rw [F.sc]; exact hk) (show cenv.scope.names.lookup x = some .local by rw [F.sc]; exact hl) F.ns F.mx ⟨r, kp_refl _⟩) hd
theorem qv_cap {i : Nat} {y : Str} (hk : scope.kind = .function) (hl : scope.names.lookup y = some .free) (hN : X.N[i]? = some y) (hs : σ[i]? = some (some z)) (hv : X.env.kindOf y = some .cell ∨ X.env.kindOf y = some .free := by first | exact Or.inl rfl | exact Or.inr rfl) (hd : (y == ("__debug__" : Str)) = false := by decide) (hcd : (y == ("__classdict__" : Str)) = false := by decide) :
    QV X σ H P scope x u (.Name y pos) z := fun cenv A' E' s m F => by
  obtain ⟨r, c, h1, h2, h3⟩ := F.cap i y z hN hs hv hl
  exact wpAny_Name (wpAny_loadName_free (by rw [F.sc]; exact hk) (show cenv.scope.names.lookup y = some .free by rw [F.sc]; exact hl) h2 h3 ⟨h1, kp_refl _⟩ hcd) hd
theorem qv_glob {y : Str} {r : Value} (hk : scope.kind = .function) (hl : scope.names.lookup y = some .globalImplicit) (hm : X.mg y = some r) (h : RelV z r) (hd : (y == ("__debug__" : Str)) = false := by decide) :
    QV X σ H P scope x u (.Name y pos) z := fun cenv A' E' s m F =>
  Calls.Name_function_global (by rw [F.sc]; exact hk) (show cenv.scope.names.lookup y = some .globalImplicit by rw [F.sc]; exact hl) (Calls.loadGlobal_global (by rw [F.gl]; exact F.md.glob.keeps F.base) hm ⟨h, kp_refl _⟩) hd
theorem qv_int {i : Int} {j : Nat} : QV X σ H P scope x u (.Constant (.int i) j pos) (.int i) := fun cenv A' E' s m F => wpAny_Constant_int ⟨⟨_, rfl⟩, kp_tok _ _⟩
theorem qv_str {i : Str} {j : Nat} : QV X σ H P scope x u (.Constant (.str i) j pos) (.str i) := fun cenv A' E' s m F => Calls.Constant_str ⟨⟨_, rfl⟩, kp_tok _ _⟩
/-- an operation on two values -/
def QR (X : Cx) (σ : L2.St) (H : Hp) (P : Addr) (scope : Scope) (x : Str) (u : Value) (f : Value → Value → Sem Value) (za zb z : V) : Prop :=
  ∀ (cenv : Env) (A' : Around) (E' : Value → Shared → Prop) (s₂ : Shared) (m₂ : Str → Option Value) (v w : Value), Fc X σ H P scope x u cenv A' s₂ m₂ → RelV za v → RelV zb w → wpAny (model X.prog X.w) A' (f v w) (fun y s₃ => RelV z y ∧ Keeps s₂ s₃) E' s₂
theorem qv_two {f : Value → Value → Sem Value} (ha : QV X σ H P scope x u a za) (hb : QV X σ H P scope x u b zb) (hr : QR X σ H P scope x u f za zb z) (cenv : Env) (A' : Around) (E' : Value → Shared → Prop) (s : Shared) (m : Str → Option Value) (F : Fc X σ H P scope x u cenv A' s m) :
    wpAny (model X.prog X.w) A' (eval a cenv) (fun v s₁ => wpAny (model X.prog X.w) A' (eval b cenv) (fun w s₂ => wpAny (model X.prog X.w) A' (f v w) (fun y s₃ => RelV z y ∧ Keeps s s₃) E' s₂) E' s₁) E' s :=
  wpAny_mono (ha cenv A' E' s m F) (fun v s1 r1 => wpAny_mono (hb cenv A' E' s1 m (F.keeps r1.2)) (fun w s2 r2 => wpAny_mono (hr cenv A' E' s2 m v w ((F.keeps r1.2).keeps r2.2) r1.1 r2.1)
    (fun y s3 r3 => ⟨r3.1, kp_trans (kp_trans r1.2 r2.2) r3.2⟩) fun _ _ e => e) fun _ _ e => e) fun _ _ e => e
theorem qv_cmp {op : CmpOp} (hr : QR X σ H P scope x u (compareOp op) za zb z) (ha : QV X σ H P scope x u a za) (hb : QV X σ H P scope x u b zb) (hm : behindInMarks op b = false) : QV X σ H P scope x u (.Compare a [op] [b] pos) z := fun cenv A' E' s m F =>
  wpAny_Compare1 (qv_two ha hb hr cenv A' E' s m F) hm
theorem qv_op {op : Operator} (hr : QR X σ H P scope x u (binaryOp op) za zb z) (ha : QV X σ H P scope x u a za) (hb : QV X σ H P scope x u b zb) : QV X σ H P scope x u (.BinOp a op b pos) z := fun cenv A' E' s m F =>
  wpAny_BinOp (qv_two ha hb hr cenv A' E' s m F)
theorem qv_ix (hr : ∀ value slice, subscripted slice false = subscripted slice false → QR X σ H P scope x u (fun v w => subscriptTail value slice v w) za zb z) (ha : QV X σ H P scope x u a za) (hb : QV X σ H P scope x u b zb) : QV X σ H P scope x u (.Subscript a b pos) z := fun cenv A' E' s m F =>
  Subscript_ (qv_two ha hb (hr a b rfl) cenv A' E' s m F)
theorem qr_add {i j : Int} : QR X σ H P scope x u (binaryOp .Add) (.int i) (.int j) (.int (i + j)) := fun cenv A' E' s m v w F r1 r2 => by
  obtain ⟨t, rfl⟩ := r1
  obtain ⟨t', rfl⟩ := r2
  exact add_int ⟨⟨_, rfl⟩, kp_tok _ _⟩
theorem qr_ne_int {i j : Int} : QR X σ H P scope x u (compareOp .NotEq) (.int i) (.int j) (.bl (i != j)) := fun cenv A' E' s m v w F r1 r2 => by
  obtain ⟨t, rfl⟩ := r1
  obtain ⟨t', rfl⟩ := r2
  exact ne_int ⟨rfl, kp_refl _⟩
theorem qr_le_int {i j : Int} : QR X σ H P scope x u (compareOp .LtE) (.int i) (.int j) (.bl (decide (i ≤ j))) := fun cenv A' E' s m v w F r1 r2 => by
  obtain ⟨t, rfl⟩ := r1
  obtain ⟨t', rfl⟩ := r2
  exact le_int ⟨rfl, kp_refl _⟩
theorem qr_ne_str {i j : Str} : QR X σ H P scope x u (compareOp .NotEq) (.str i) (.str j) (.bl (i.cps.toList != j.cps.toList)) := fun cenv A' E' s m v w F r1 r2 => by
  obtain ⟨t, rfl⟩ := r1
  obtain ⟨t', rfl⟩ := r2
  exact PySem.P.ne_str ⟨rfl, kp_refl _⟩
theorem qr_in_sign {c : Nat} {j : Str} : QR X σ H P scope x u (compareOp .In) (.str ⟨#[c]⟩) (.str j) (.bl (decide (c ∈ j.cps.toList))) := fun cenv A' E' s m v w F r1 r2 => by
  obtain ⟨t, rfl⟩ := r1
  obtain ⟨t', rfl⟩ := r2
  exact PyProof.Rows.in_str ⟨(PySem.StrLaws.found_one j c).symm ▸ rfl, kp_refl _⟩
end

/-! ### what is walked -/
def SrcV (K : PySem.W.Frag) (H : Hp) (v : V) (n : Nat) (xs : Nat → V) : Prop :=
  (∃ (a : Addr) (l : List V), v = .ref a ∧ SqL K H a l ∧ n = l.length ∧ ∀ i, xs i = l.getD i .non) ∨
  (∃ z : Str, v = .str z ∧ n = z.cps.size ∧ ∀ i c, z.cps[i]? = some c → xs i = .str ⟨#[c]⟩) ∨
  (∃ (a : Addr) (lo hi : Int), v = .ref a ∧ H a = some (.rng lo hi) ∧ n = (hi - lo).toNat ∧ -(2 ^ 62) ≤ lo ∧ lo < 2 ^ 62 ∧ -(2 ^ 62) ≤ hi ∧ hi < 2 ^ 62 ∧ ∀ i : Nat, xs i = .int (lo + i))
section
variable {X : Cx} {pins : List (Addr × Obj)} {σ : L2.St} {H : Hp} {s : Shared}
theorem src_iter {v : V} {xv : Value} {n : Nat} {xs : Nat → V} {P : Addr} {Q : Value → Shared → Prop} {E : Value → Shared → Prop} (S : SrcV X.K H v n xs) (I : Inv X pins σ H s) (r : RelV v xv) (hT : Tab H P)
    (h : ∀ (o : Obj) (fp : List Addr) (Pf : Nat → Value → Prop) (St : Nat → Heap → Prop), (∀ i u, Pf i u → i < n → RelV (xs i) u) → (∀ A' : Around, A'.handled = none → Walks X.prog X.w A' s.heap.objs.size fp [s.heap.objs.size] n Pf St) →
      St 0 (s.heap.push o) → (∀ b ∈ fp, b ≤ s.heap.objs.size ∧ b ≠ P) → Q (.ref s.heap.objs.size) { s with heap := s.heap.push o }) : wpAny (model X.prog X.w) X.A (pyIter xv) Q E s := by
  have Plt : P < s.heap.objs.size := Heap.lt_size (hT.of_ok I.hok).choose_spec.1
  have szP : s.heap.objs.size ≠ P := fun z => Nat.lt_irrefl _ (z ▸ Plt : s.heap.objs.size < s.heap.objs.size)
  rcases S with ⟨a, l, rfl, hl, rfl, hx⟩ | ⟨z, rfl, rfl, hx⟩ | ⟨a, lo, hi, rfl, ha, rfl, b1, b2, b3, b4, hx⟩
  · cases r
    obtain ⟨its, rv, pl, _⟩ := I.list hl
    have hal : a < s.heap.objs.size := let ⟨_, e, _⟩ := pl.isList; Heap.lt_size e
    have naP : a ≠ P := fun e => by
      obtain ⟨ps, e1, _⟩ := hT.of_ok I.hok
      obtain ⟨o, n, e2, e3, _, e4⟩ := pl
      rw [e, e1] at e2
      cases e2
      cases e3
    refine wpAny_pyIter_list pl.isList ?_
    have hne : a ≠ s.heap.objs.size := Nat.ne_of_lt hal
    have en : its.toArray.size = l.length := by rw [List.size_toArray]; exact rv.length.symm
    refine h _ [s.heap.objs.size, a] (fun i v => its.toArray[i]? = some v) (fun i h => h.IsListIter s.heap.objs.size a i ∧ h.IsList a its.toArray) (fun i u hu hi => ?_) (fun A' hA => by rw [← en]; exact Walks.list hA _ a hne its.toArray) ⟨⟨_, Heap.get?_push_size _ rfl, rfl, rfl⟩, pl.isList.at fun o e => Heap.get?_push_of_some _ e⟩ fun b hb => ?_
    · obtain ⟨w, ew, rw'⟩ := rv.get (List.getElem?_eq_getElem hi)
      have e2 : its.toArray[i]? = some w := by simpa using ew
      rw [e2] at hu
      cases hu
      rw [hx, List.getD_eq_getElem?_getD, List.getElem?_eq_getElem hi]
      exact rw'
    · rcases List.mem_cons.mp hb with e | hb
      · rw [e]
        exact ⟨Nat.le_refl _, szP⟩
      · rw [List.mem_singleton.mp hb]
        exact ⟨Nat.le_of_lt hal, naP⟩
  · obtain ⟨t, rfl⟩ := r
    refine wpAny_pyIter_str fun o St W hst => ?_
    refine h o [s.heap.objs.size] (SignAt z) St (fun i u hu hi => ?_) W hst fun b hb => ?_
    · obtain ⟨c, t', hc, rfl⟩ := hu
      rw [hx i c hc]
      exact ⟨_, rfl⟩
    · rw [List.mem_singleton.mp hb]
      exact ⟨Nat.le_refl _, szP⟩
  · cases r
    obtain ⟨t, t1, t2, e⟩ := I.hok a _ ha
    refine wpAny_pyIter_range (a := lo) (b := hi) (c := 1) e (small_one b1 b2 b3 b4) ?_
    have en : ((Builtin.Range.rangeSize lo hi 1 : Int)) = (((hi - lo).toNat : Nat) : Int) := by
      unfold Builtin.Range.rangeSize
      simp
      omega
    refine h _ [s.heap.objs.size] (fun i v => ∃ t, v = .int (lo + i * 1) t) _ (fun i u hu hi => ?_) (fun A' hA => Walks.range hA _ lo 1 _) ?_ fun b hb => ?_
    · obtain ⟨t, rfl⟩ := hu
      rw [hx]
      exact ⟨t, by rw [Int.mul_one]⟩
    · rw [en]
      show IsRangeIter _ _ (lo + ((0 : Nat) : Int) * 1) ((((hi - lo).toNat : Nat) : Int) - ((0 : Nat) : Int)) 1
      rw [show lo + ((0 : Nat) : Int) * 1 = lo by simp, show (((hi - lo).toNat : Nat) : Int) - ((0 : Nat) : Int) = (((hi - lo).toNat : Nat) : Int) by simp]
      exact Heap.get?_push_size _ rfl
    · rw [List.mem_singleton.mp hb]
      exact ⟨Nat.le_refl _, szP⟩
end
theorem lookup_mem' {α : Type} : ∀ {l : List (Str × α)} {n : Str} {c : α}, l.lookup n = some c → (n, c) ∈ l
  | [], _, _, h => by cases h
  | (k, v) :: r, n, c, h => by
    rw [List.lookup_cons] at h
    cases hb : n == k with
    | true =>
      rw [hb] at h
      cases h
      rw [beq_iff_eq.mp hb]
      exact List.mem_cons_self
    | false =>
      rw [hb] at h
      exact List.mem_cons_of_mem _ (lookup_mem' h)
theorem walks_lt {prog : Program} {w : World} {A : Around} {I : Addr} {fp wr : List Addr} {n : Nat} {Pf : Nat → Value → Prop} {St : Nat → Heap → Prop} (W : Walks prog w A I fp wr n Pf St) : Walks prog w A I fp wr n (fun i u => i < n ∧ Pf i u) St where
  sub := W.sub
  frame := W.frame
  item := fun i s Q E hi st hQ => W.item i s Q E hi st fun v h' tk hp => hQ v h' tk ⟨hi, hp⟩
  done := W.done
  self := W.self
theorem clo_lookup {cells : List (Str × Addr)} {names : List (Str × NameKind)} {y : Str} {c : Addr} (hy : (y, NameKind.free) ∈ names) (hc : cells.lookup y = some c) : (cloFrom cells names []).lookup y = some c := by
  obtain ⟨c', h⟩ := mem_lookup (cloFrom_has (cells := cells) (acc := []) hy)
  rcases cloFrom_mem (lookup_mem' h) with z | ⟨_, z⟩
  · cases z
  · rw [h, z, hc]
    rfl
section
variable {X : Cx} {pins : List (Addr × Obj)} {σ : L2.St} {H : Hp} {s : Shared}
/-- the table has grown: nothing that is tracked changes -/
theorem inv_grown {P : Addr} {s' : Shared} (I : Inv X pins σ H s) (hT : Tab H P) (k : ∀ b o, b ≠ P → s.heap.get? b = some o → s'.heap.get? b = some o) (hP : TabPhi P s'.heap) (ho : s'.os = s.os) (hg : AllBare s'.gens) : Inv X pins σ H s' := by
  have nN : ∀ b, H b = none → b ≠ P := fun b e z => by
    rw [z, hT] at e
    cases e
  have J := I.step (h' := s'.heap) (H' := H) (g' := s'.gens) (t' := s'.toks) (d' := s'.drawn) (ch := []) (fun b hb => absurd hb (by simp)) (fun b o _ _ _ e n => k b o (nN b n) e) (fun b o _ _ _ e n => ⟨o.slots, k b o (nN b n) e⟩) (fun b o _ _ n => n)
    (fun b o _ e => by
      by_cases hb : b = P
      · rw [hb]
        exact ⟨_, hP.choose_spec.1⟩
      · exact ⟨o, k b o hb e⟩)
    (fun b xs e => e) (fun b o u e => e) (fun b ps e => ⟨#[], by rw [e]; simp⟩) (fun m ⟨ob, es, ep, e, r⟩ => ⟨ob, es, ep, k _ ob (nN _ I.free) e, r⟩)
    (fun b u e => by
      by_cases hb : b = P
      · subst hb
        rw [hT] at e
        cases e
        exact tab_ok hP
      · refine (I.hok b u e).stay (fun d v hd q => k d v ?_ q) (fun d q => q) fun d xs q => q
        rcases hd with z | z
        · rw [z]
          exact hb
        · intro e2
          rw [e2, hT] at z
          cases z) hg
  have e : ({ s with heap := s'.heap, gens := s'.gens, drawn := s'.drawn, toks := s'.toks } : Shared) = s' := by
    cases s'
    cases ho
    rfl
  rw [e] at J
  exact J
/-- the generator g, ready to be walked -/
def RdyG (X : Cx) (pins : List (Addr × Obj)) (σ : L2.St) (H : Hp) (n : Nat) (f : Nat → Bool) (g : Addr) (s5 : Shared) : Prop :=
  ∃ (fp wr : List Addr) (G : Array GenState → Array GenState → Prop) (F : Nat → Value → Prop) (St : Nat → Shared → Prop), WalksS X.prog X.w X.A.in1 g fp wr G n F St ∧ St 0 s5 ∧ TruthOf X.prog X.w X.A.in1 F f ∧ ∀ s', Moved wr G s5 s' → Inv X pins σ H s'
theorem gen_make {c P : Addr} {elt iter : Expr} {x : Str} {px gpos : Pos} {scope : Scope} {te : TE} {k : Nat} {Q' : Value → Shared → Prop} {R : Nat → (Nat → Bool) → Hp → Prop}
    (hr : Room k X.A) (TB : LamX.TabB X.base X.mg c P) (hcode : X.env.code = .ref c) (S : GxR.GenS X.env scope x) (hi : PE X iter te) (hs : ∀ v, genFold iter X.env v = pure v) (I : Inv X pins σ H s)
    (h : te σ H fun v H1 => Tab H1 P ∧ ∃ (n : Nat) (xs : Nat → V) (f : Nat → Bool), SrcV X.K H1 v n xs ∧ (∀ i u, i < n → RelV (xs i) u → QV X σ H1 P scope x u elt (.bl (f i))) ∧ R n f H1)
    (hQ : ∀ n f H1 g s5, R n f H1 → RdyG X pins σ H1 n f g s5 → Q' (.ref g) s5) :
    wpAny (model X.prog X.w) X.A (eval (.GeneratorExp elt [⟨.Name x px, iter, [], 0⟩] scope gpos) X.env) Q' X.xe s := by
  refine wpAny_GeneratorExp_walksQD hr.hd S.co (closure_ok S.free) S.cell S.dot S.loc S.kind hr.depth ?_ hs
  refine thn (hi.run pins s σ H _ I h) fun xv s1 ⟨v, H1, I1, r1, hT, n, xs, f, hsrc, hel, hR⟩ => ?_
  refine src_iter hsrc I1 r1 hT fun o fp Pf St hPf hW hst hfp => ?_
  obtain ⟨ps, hPs, ht⟩ := hT.of_ok I1.hok
  have hPlt : P < s1.heap.objs.size := Heap.lt_size hPs
  have hP2 : (s1.heap.push o).get? P = some { cls := .none, data := .fields ps } := Heap.get?_push_of_some _ hPs
  have cd : PySem.W.CodeHd (s1.heap.push o) c P := TB.code.keeps fun b u e => Heap.get?_push_of_some _ (I1.bk b u e)
  have lim2 : (s1.heap.push o).NoLimit := I1.nolimit.push o
  have hcP : cStatics ≠ P := fun e => by
    obtain ⟨_, ⟨o', es, ep, ho, hd, _⟩, _⟩ := I1.nolimit
    rw [e, hPs] at ho
    cases ho
    cases hd
  have hcl : cStatics < s1.heap.objs.size := let ⟨_, hns, _⟩ := I1.nolimit; hns.lt
  have sz2 : (s1.heap.push o).objs.size = s1.heap.objs.size + 1 := Heap.size_push ..
  have nTb : ∀ b, H1 b = none → b ≠ P := fun b e z => by
    rw [z, hT] at e
    cases e
  -- what is left once the code object is known
  have go : ∀ (code : Value) (h3 : Heap) (tk : Nat) (ps' : Array Value), Heap.ExtBut P (s1.heap.push o) h3 → (s1.heap.push o).objs.size ≤ h3.objs.size → h3.get? P = some { cls := .none, data := .fields ps' } → TriplesOk ps'.toList →
      wpAny (model X.prog X.w) X.A (builtinsFor X.env.globals X.env.builtins) (fun bi s₄ => ∃ I fp wr n₀ Pg St₀ pz F, Value.ref s1.heap.objs.size = .ref I ∧ (∀ A' : Around, A'.handled = none → Walks X.prog X.w A' I fp wr n₀ Pg St₀) ∧ St₀ 0 s₄.heap ∧ (∀ b ∈ fp, b < s₄.heap.objs.size) ∧ s₄.heap.NoLimit ∧ cStatics ∉ wr ∧
          (∀ href : Heap, (∀ b o, s₄.heap.get? b = some o → href.get? b = some o) → QuietGenD X.prog X.w (genEnv scope (cloFrom X.env.cells scope.names []) s₄.heap.objs.size code bi X.env) x [] elt (List.range s₄.heap.objs.size) wr Pg pz F href (X.A.depth + 1) (X.A.units + 8)) ∧
          (∀ a h₅ tk gs, gs.bare = true → s₄.heap.objs.size < a → h₅.objs.size = a + 1 → (∀ b o, s₄.heap.get? b = some o → h₅.get? b = some o) →
            WalksS X.prog X.w X.A.in4 a (a :: s₄.heap.objs.size :: List.range s₄.heap.objs.size) (s₄.heap.objs.size :: wr) (GenOnlyQ s₄.gens.size) (passing pz n₀ 0).length (fun j y => ∃ i, (passing pz n₀ 0)[j]? = some i ∧ F i y) (GenAt X.prog X.w X.A.in4 a s₄.gens.size s₄.heap.objs.size (List.range s₄.heap.objs.size) wr pz n₀ F) →
            GenAt X.prog X.w X.A.in4 a s₄.gens.size s₄.heap.objs.size (List.range s₄.heap.objs.size) wr pz n₀ F 0 { s₄ with gens := s₄.gens.push gs, toks := tk, heap := h₅ } →
            Q' (.ref a) { s₄ with gens := s₄.gens.push gs, toks := tk, heap := h₅ })) X.xe { s1 with heap := h3, toks := tk } := by
    intro code h3 tk ps' hx hsz hP3 ht3
    obtain ⟨bm, ob, e1, e2, e3, e4, e5, e6, e7, e8⟩ := TB.bm
    have keep3 : ∀ b u, b ≠ P → s1.heap.get? b = some u → h3.get? b = some u := fun b u hb e => hx b u hb (Heap.get?_push_of_some _ e)
    refine wpAny_builtinsFor (m := X.mg) (by rw [I1.ok.glob]; exact ((I1.mod.glob.keeps I1.bk).push o).extBut hx TB.gP) e1 e2 (keep3 _ _ e4 (I1.bk _ _ e5)) e6 e7 e8 ?_
    have hsz3 : s1.heap.objs.size < h3.objs.size := by omega
    refine ⟨s1.heap.objs.size, fp, [s1.heap.objs.size], n, fun i u => i < n ∧ Pf i u, St, fun _ => true, fun i y => y = .bool (f i), rfl, fun A' hA => walks_lt (hW A' hA), ?_, fun b hb => Nat.lt_of_le_of_lt (hfp b hb).1 hsz3, lim2.extBut hx hcP, ?_, ?_, ?_⟩
    · exact (hW X.A hr.hd).frame _ _ _ hst fun b hb u e => hx b u (hfp b hb).2 e
    · intro z
      rw [List.mem_singleton.mp z] at hcl
      exact Nat.lt_irrefl _ hcl
    · intro href hhref
      refine ⟨fun A' E' i v s₂ m₂ hA hD hU hPv hn hm hk => ?_, fun A' E' i v s₂ m₂ hA hD hU hPv hp hn hm hk => ?_⟩
      · simp only [List.forIn_nil]
        exact wpAny_pure ⟨rfl, kp_refl _⟩
      · have kept : ∀ b u, b ≠ P → s1.heap.get? b = some u → s₂.heap.get? b = some u := fun b u hb e => by
          have hlt := Heap.lt_size e
          refine hk b (List.mem_range.mpr ?_) (fun z => ?_) u (hhref b u (keep3 b u hb e))
          · show b < h3.objs.size
            exact Nat.lt_trans hlt hsz3
          · rw [List.mem_singleton.mp z] at hlt
            exact Nat.lt_irrefl _ hlt
        refine wpAny_mono (hel i v hPv.1 (hPf i v hPv.2 hPv.1) _ A' E' s₂ m₂ ⟨hA, hD, hU, rfl, I1.ok.glob, rfl, hn, hm, fun b u e => kept b u (nTb b (I1.bs b u e).2) (I1.bk b u e), I1.mod, fun b u e => ?_, fun j y w hN hσ hv hfr => ?_⟩) (fun y s3 r => ⟨r.1, r.2⟩) fun _ _ e => e
        · have hb : b ≠ P := fun z => by
            rw [z] at e
            unfold but at e
            rw [if_pos rfl] at e
            cases e
          rw [but_ne hb] at e
          refine (I1.hok b u e).stay (fun d w hd q => kept d w ?_ q) (fun d q => ?_) fun d ys q => ?_
          · rcases hd with z | z
            · rw [z]
              exact hb
            · intro e2
              rw [e2, hT] at z
              cases z
          · rw [but_ne fun e2 => by rw [e2, hT] at q; cases q]
            exact q
          · rw [but_ne fun e2 => by rw [e2, hT] at q; cases q]
            exact q
        · obtain ⟨m, hn1, hl⟩ := I1.loc
          obtain ⟨r, rv, l⟩ := hl j y w hN hσ (hv.elim (fun z => Or.inr (Or.inl z)) (fun z => Or.inr (Or.inr z)))
          rcases l with ⟨z, _⟩ | ⟨_, cc, hc, oc, he, hd⟩
          · rcases hv with z2 | z2
            · rw [z] at z2; cases z2
            · rw [z] at z2; cases z2
          · exact ⟨r, cc, rv, clo_lookup (lookup_mem' hfr) hc, oc, kept cc oc (nTb cc (I1.freeC y cc hc)) he, hd⟩
    · intro g h5 tk5 gs hgb hag hsz5 hk5 W5 hat
      simp only [GxR.passing_true, List.length_range] at W5
      refine hQ n f H1 g _ hR ⟨_, _, _, _, _, W5.in4_1, hat, fun j y sj Qj Ej hy hQj => ?_, fun s' hm => ?_⟩
      · obtain ⟨i, hij, rfl⟩ := hy
        obtain ⟨hj, ej⟩ := List.getElem?_eq_some_iff.mp hij
        rw [List.getElem_range] at ej
        subst ej
        exact wpAny_truthy_bool hQj
      · have nwr : ∀ b u, s1.heap.get? b = some u → b ∉ h3.objs.size :: [s1.heap.objs.size] := fun b u e hb => by
          have hl := Heap.lt_size e
          rcases List.mem_cons.mp hb with z | z
          · rw [z] at hl
            exact Nat.lt_irrefl _ (Nat.lt_trans hl hsz3)
          · rw [List.mem_singleton.mp z] at hl
            exact Nat.lt_irrefl _ hl
        exact inv_grown I1 hT (fun b u hb e => hm.heap b u (nwr b u e) (hk5 b u (keep3 b u hb e))) ⟨ps', hm.heap P _ (nwr P _ hPs) (hk5 P _ hP3), ht3⟩ hm.os (AllBare.movedS (I1.bare.push hgb) hm)
  refine ⟨lim2, ?_⟩
  cases hf : codeAmong gpos ps.toList with
  | some cv => exact wpAny_genexprCode_hit hcode (cd.code hP2 ht) hf (go cv (s1.heap.push o) s1.toks ps (Heap.ExtBut.refl _ _) (Nat.le_refl _) hP2 ht)
  | none =>
    refine wpAny_genexprCodeX hcode (cd.code hP2 ht) (cd.tab hP2) hf fun c' h' tk hx hge hlt hco' _ htab' _ => ?_
    obtain ⟨_, _, _, _, _, _, _, _, _, _, _, _, _, _, _, _, _, _, _, htr, _⟩ := hco'
    exact go _ h' tk _ hx (Nat.le_trans hge (Nat.le_of_lt hlt)) htab'.2 htr
/-- all(.. for x in e), any(.. for x in e) -/
def tGen (X : Cx) (P : Addr) (scope : Scope) (x : Str) (elt : Expr) (fin : Nat → (Nat → Bool) → Bool) (te : TE) : TE := fun σ H Q => te σ H fun v H1 => Tab H1 P ∧ ∃ (n : Nat) (xs : Nat → V) (f : Nat → Bool), SrcV X.K H1 v n xs ∧ (∀ i u, i < n → RelV (xs i) u → QV X σ H1 P scope x u elt (.bl (f i))) ∧ Q (.bl (fin n f)) H1
def allF (n : Nat) (f : Nat → Bool) : Bool := (List.range n).all f
def anyF (n : Nat) (f : Nat → Bool) : Bool := (List.range n).any f
theorem pe_all {c P : Addr} {elt iter : Expr} {x : Str} {px p pos gpos : Pos} {scope : Scope} {te : TE} {k : Nat} (hr : Room k X.A) (hg : Gl X "all") (hm : X.mg "all" = none) (hb : bootBuiltins "all" = some (.builtin "all")) (TB : LamX.TabB X.base X.mg c P) (hcode : X.env.code = .ref c) (S : GxR.GenS X.env scope x)
    (hi : PE X iter te) (hs : ∀ v, genFold iter X.env v = pure v)
    (he : starEach [.GeneratorExp elt [⟨.Name x px, iter, [], 0⟩] scope gpos] X.env = (false, eval (.GeneratorExp elt [⟨.Name x px, iter, [], 0⟩] scope gpos) X.env) :: starEach [] X.env := by rfl) :
    PE X (.Call (.Name "all" p) [.GeneratorExp elt [⟨.Name x px, iter, [], 0⟩] scope gpos] [] pos) (tGen X P scope x elt allF te) := by
  refine ⟨fun pins s σ H Q I h => wpAny_Call_Name_kw (ld_blt I hg hm hb (PyProof.Rows.callWith_builtin1 ?_ he (by rfl)))⟩
  rw [he]
  show wpAny _ _ (spliced ((false, eval (.GeneratorExp elt [⟨.Name x px, iter, [], 0⟩] scope gpos) X.env) :: backTo pos (starEach [] X.env))) _ _ s
  refine Calls.spliced_cons (gen_make (R := fun n f H1 => Q (.bl (allF n f)) H1) hr TB hcode S hi hs I h fun n f H1 g s5 hR ⟨fp, wr, G, F, St₁, W, hst, htr, hI⟩ => Calls.spliced_nil ?_)
  exact call_all_walkS (W.self 0 _ _ _ hst ⟨g, fp, wr, G, _, F, St₁, _, rfl, W, hst, htr, fun s' hmv => ⟨.bl _, H1, hI s' hmv, rfl, hR⟩⟩)
theorem pe_any {c P : Addr} {elt iter : Expr} {x : Str} {px p pos gpos : Pos} {scope : Scope} {te : TE} {k : Nat} (hr : Room k X.A) (hg : Gl X "any") (hm : X.mg "any" = none) (TB : LamX.TabB X.base X.mg c P) (hcode : X.env.code = .ref c) (S : GxR.GenS X.env scope x)
    (hi : PE X iter te) (hs : ∀ v, genFold iter X.env v = pure v)
    (he : starEach [.GeneratorExp elt [⟨.Name x px, iter, [], 0⟩] scope gpos] X.env = (false, eval (.GeneratorExp elt [⟨.Name x px, iter, [], 0⟩] scope gpos) X.env) :: starEach [] X.env := by rfl) :
    PE X (.Call (.Name "any" p) [.GeneratorExp elt [⟨.Name x px, iter, [], 0⟩] scope gpos] [] pos) (tGen X P scope x elt anyF te) := by
  refine ⟨fun pins s σ H Q I h => wpAny_Call_Name_kw (ld_blt I hg hm boot_any (PyProof.Rows.callWith_builtin1 ?_ he (by rfl)))⟩
  rw [he]
  show wpAny _ _ (spliced ((false, eval (.GeneratorExp elt [⟨.Name x px, iter, [], 0⟩] scope gpos) X.env) :: backTo pos (starEach [] X.env))) _ _ s
  refine Calls.spliced_cons (gen_make (R := fun n f H1 => Q (.bl (anyF n f)) H1) hr TB hcode S hi hs I h fun n f H1 g s5 hR ⟨fp, wr, G, F, St₁, W, hst, htr, hI⟩ => Calls.spliced_nil ?_)
  exact call_any_walkS (W.self 0 _ _ _ hst ⟨g, fp, wr, G, _, F, St₁, _, rfl, W, hst, htr, fun s' hmv => ⟨.bl _, H1, hI s' hmv, rfl, hR⟩⟩)
end
end LG

set_option Elab.async false
set_option linter.all false
set_option maxRecDepth 100000
set_option maxHeartbeats 4000000
namespace LS
open PySem PySem.Spec PyProof.Rows L2 Evl LT LG
/-! ### texts -/
section
variable {K : PySem.W.Frag} {σ : L2.St} {H : Hp} {ta tb tc te to : TE} {x y z v : V} {D : Ends} {tu tz : TS}
theorem rv_addS {i j : Str} (h : i.length + j.length ≤ sizeLine) : RV (fun x y H Q => ∃ i j, x = .str i ∧ y = .str j ∧ i.length + j.length ≤ sizeLine ∧ Q (.str (i ++ j)) H) (.str i) (.str j) H (.str (i ++ j)) := rv_val fun _ _ Q q => ⟨i, j, rfl, rfl, h, q⟩
theorem ev_lenS {z : Str} {ta : TE} (h : Ev ta σ H (.str z)) (hz : z.length ≤ sizeLine) : Ev (tCB (fun xs H Q => ∃ x, xs = [.str x] ∧ x.length ≤ sizeLine ∧ Q (.int x.length) H) (tCons ta tNil)) σ H (.int (z.length : Int)) := ev_cb (ea_cons h ea_nil) fun H1 _ Q q => ⟨z, rfl, hz, q H1 (Ex.refl H1)⟩
theorem ev_isi {x : V} {n : String} {t : Value} {b : Bool} (h : Ev ta σ H x) (hn : Ev tb σ H (.ty n)) (ht : ∀ H1, Ex H H1 → TyX K H1 x t) (hk : PySem.W.kitOne K t (.type n) = some b) : Ev (tCB (rIsi K) (tCons ta (tCons tb tNil))) σ H (.bl b) :=
  ev_cb (ea_cons h (ea_cons hn ea_nil)) fun H1 e Q q => ⟨x, .ty n, t, .type n, b, rfl, .ty n, ht H1 e, hk, q H1 (Ex.refl H1)⟩
/-- a < b < c over ints -/
theorem et_chain {f g : Int → Int → Bool} {i j k : Int} (ha : Ev ta σ H (.int i)) (hb : Ev tb σ H (.int j)) (hc : Ev tc σ H (.int k)) : EvT (tTest (tChain (rI0 fun i j => .bl (f i j)) (rI0 fun i j => .bl (g i j)) ta tb tc)) σ H (f i j && g j k) := fun H1 e Q q =>
  ha H1 e _ fun H2 e2 => hb H2 (e.trans e2) _ fun H3 e3 => ⟨i, j, rfl, rfl, f i j, rfl, by
    cases hf : f i j with
    | true =>
      rw [if_pos rfl]
      refine hc H3 ((e.trans e2).trans e3) _ fun H4 e4 => ⟨j, k, rfl, rfl, g j k, rfl, ?_⟩
      have := q H4 ((e2.trans e3).trans e4)
      rw [hf] at this
      exact this
    | false =>
      rw [if_neg Bool.false_ne_true]
      have := q H3 (e2.trans e3)
      rw [hf] at this
      exact ⟨false, rfl, this⟩⟩
theorem s_forS {zs : Str} {j : Nat} (h : Ev te σ H (.str zs)) (Pv : Nat → L2.St → Hp → Prop) (h0 : ∀ H1, Ex H H1 → Pv 0 σ H1)
    (hs : ∀ i c σ' H', zs.cps.toList[i]? = some c → Pv i σ' H' → tu { D with nx := Pv (i + 1), ct := Pv (i + 1), bk := D.nx } (σ'.set j (some (.str ⟨#[c]⟩))) H') (hd : ∀ σ' H', Pv zs.cps.toList.length σ' H' → D.nx σ' H') : tFor (iStr te) (gName j) tu D σ H :=
  h H (Ex.refl H) _ fun H1 e => ⟨zs, rfl, fun i m σ' H' => m + i = zs.cps.size ∧ Pv i σ' H', ⟨zs.cps.size, by omega, h0 H1 e⟩, fun i m σ' H' ⟨hm, p⟩ => by
    by_cases hi : i < zs.cps.size
    · refine .inr ⟨hi, Pv (i + 1), fun σ2 H2 p2 => ⟨m - 1, by omega, by omega, p2⟩, fun v H2 hy => ?_⟩
      obtain ⟨rfl, c, hc, rfl⟩ := hy
      exact hs i c σ' H2 (by rw [Array.getElem?_toList]; exact hc) p
    · have ei : i = zs.cps.toList.length := by
        rw [Array.length_toList]
        omega
      rw [ei] at p
      exact .inl ⟨Nat.le_of_not_lt hi, hd σ' H' p⟩⟩
theorem q_forS {zs : Str} {j : Nat} (h : Ev te σ H (.str zs)) (Pv : Nat → L2.St → Hp → Prop) (h0 : ∀ H1, Ex H H1 → Pv 0 σ H1)
    (hs : ∀ i c σ' H', zs.cps.toList[i]? = some c → Pv i σ' H' → tu { D with nx := Pv (i + 1), ct := Pv (i + 1), bk := tz D } (σ'.set j (some (.str ⟨#[c]⟩))) H') (hd : ∀ σ' H', Pv zs.cps.toList.length σ' H' → tz D σ' H') : tSeq (tFor (iStr te) (gName j) tu) tz D σ H :=
  s_forS (D := { D with nx := tz D }) h Pv h0 hs hd
theorem q_call {i : Nat} {sp : Sp} {dvs vs : List V} {E : XK} {tr : TA} (h : EvA tr σ H vs) (k : ∀ H1, Ex H H1 → sp (vs ++ dvs) H1 (fun v H2 => tz D (σ.set i (some v)) H2) E) : tSeq (tAsg (tCall sp dvs E tr) (gName i)) tz D σ H := h H (Ex.refl H) _ fun H1 e => k H1 e
/-- a call whose first argument is a new tuple -/
theorem ev_callU1 {sp : Sp} {dvs vs xs : List V} {E : XK} {tr : TA} (h : EvU ta σ H xs) (hr : EvA tr σ H vs) (hs : ∀ p H1, H1 p = some (.tup xs) → Ex H H1 → SpV sp ((.ref p :: vs) ++ dvs) H1 z) : Ev (tCall sp dvs E (tCons ta tr)) σ H z := fun H1 e Q q =>
  h H1 e _ fun p H2 hp e2 h2 => hr H2 (e.trans e2) _ fun H3 e3 => hs p H3 (e3 _ _ h2) ((e.trans e2).trans e3) H3 (Ex.refl _) Q (fun H4 e4 => q H4 ((e2.trans e3).trans e4)) E
theorem ev_index {W : WX} {a b : Str} {k : Nat} {tr : TA} (h : Ev to σ H (.str a)) (hb : EvA tr σ H [.str b]) (hk : Txt.index0 a b = some k) : Ev (tBMS K "str" (rIndexX W) to tr) σ H (.int (k : Int)) := fun H1 e Q q =>
  h H1 e _ fun H2 e2 => ⟨rfl, hb H2 (e.trans e2) _ fun H3 e3 => ⟨a, b, rfl, rfl, fun k' hk' => by
    rw [hk] at hk'
    cases hk'
    exact q H3 (e2.trans e3), fun hn => by
    rw [hk] at hn
    cases hn⟩⟩
theorem ev_find {a b : Str} (h : Ev to σ H (.str a)) (hb : Ev te σ H (.str b)) : Ev (tM1 (fun x xs H Q => ∃ a b, x = .str a ∧ xs = [.str b] ∧ Q (.int (Txt.find a b)) H) to te) σ H (.int (Txt.find a b)) := fun H1 e Q q =>
  h H1 e _ fun H2 e2 => ⟨⟨a, rfl⟩, hb H2 (e.trans e2) _ fun H3 e3 => ⟨a, b, rfl, rfl, q H3 (e2.trans e3)⟩⟩
theorem ev_slS {tl th : TO} {z : Str} {lo hi : Option Int} (h : Ev te σ H (.str z)) (h1 : EvO tl σ H lo) (h2 : EvO th σ H hi) (hz : z.length ≤ sizeLine) : Ev (tSl rSlS te tl th) σ H (.str (cutS z lo hi)) := fun H1 e Q q =>
  h H1 e _ fun H2 e2 => h1 H2 (e.trans e2) _ fun H3 e3 => h2 H3 ((e.trans e2).trans e3) _ fun H4 e4 => ⟨z, rfl, hz, q H4 ((e2.trans e3).trans e4)⟩
/-- text * int -/
def rMulS : R2 := fun x y H Q => ∃ a n, x = .str a ∧ y = .int n ∧ a.length ≤ 1000 ∧ 0 ≤ n ∧ n ≤ 1000 ∧ Q (.str (Txt.mul a n)) H
theorem rv_mulS {a : Str} {n : Int} (h1 : a.length ≤ 1000) (h2 : 0 ≤ n) (h3 : n ≤ 1000) : RV rMulS (.str a) (.int n) H (.str (Txt.mul a n)) := rv_val fun _ _ Q q => ⟨a, n, rfl, rfl, h1, h2, h3, q⟩
end
theorem mulOk {a : Str} {n : Int} (h1 : a.length ≤ 1000) (h2 : 0 ≤ n) (h3 : n ≤ 1000) : MulOk a n := by
  refine ⟨by simp; omega, fun h h' hh => ?_, fun h h' => ?_⟩
  · have p : (0 : Int) < n := by omega
    have m : (a.length : Int) * n ≤ 1000 * 1000 := Int.mul_le_mul (by omega) h3 h2 (by decide)
    have := (Int.le_ediv_iff_mul_le p).mpr (show (a.length : Int) * n ≤ 2 ^ 63 - 1 by omega)
    omega
  · have m : a.length * n.toNat ≤ 1000 * 1000 := Nat.mul_le_mul h1 (by omega)
    have z : sizeLine = 16777216 := rfl
    show decide (a.length * n.toNat > sizeLine) = false
    exact decide_eq_false (by omega)
theorem op_mul_str {X : Cx} : OpR X (binaryOp .Mult) rMulS := by
  intro pins s σ H x y v u Q I rx ry h
  obtain ⟨a, n, rfl, rfl, h1, h2, h3, q⟩ := h
  obtain ⟨t, rfl⟩ := rx
  obtain ⟨t', rfl⟩ := ry
  exact SB.mul (mulOk h1 h2 h3) fun t'' k => ⟨.str (Txt.mul a n), H, I.tok _, ⟨_, rfl⟩, q⟩
section
variable {X : Cx} {σ : L2.St} {H : Hp} {P : Addr} {scope : Scope} {x : Str} {elt : Expr} {te : TE} {fin : Nat → (Nat → Bool) → Bool}
theorem ev_gen {v : V} {n : Nat} {xs : Nat → V} {f : Nat → Bool} (h : Ev te σ H v) (hT : Tab H P) (hs : ∀ H1, Ex H H1 → SrcV X.K H1 v n xs) (he : ∀ H1, Ex H H1 → ∀ i u, i < n → RelV (xs i) u → QV X σ H1 P scope x u elt (.bl (f i))) :
    Ev (tGen X P scope x elt fin te) σ H (.bl (fin n f)) := fun H1 e Q q => h H1 e _ fun H2 e2 => ⟨hT.mono (e.trans e2), n, xs, f, hs H2 (e.trans e2), he H2 (e.trans e2), q H2 e2⟩
end
theorem allF_list {α : Type} (l : List α) (d : α) (p : α → Bool) : allF l.length (fun i => p (l.getD i d)) = l.all p := by
  unfold allF
  rw [Bool.eq_iff_iff, List.all_eq_true, List.all_eq_true]
  constructor
  · intro h y hy
    obtain ⟨i, hi, rfl⟩ := List.getElem_of_mem hy
    have q := h i (List.mem_range.mpr hi)
    rw [List.getD_eq_getElem?_getD, List.getElem?_eq_getElem hi] at q
    exact q
  · intro h i hi
    have hi' := List.mem_range.mp hi
    rw [List.getD_eq_getElem?_getD, List.getElem?_eq_getElem hi']
    exact h _ (List.getElem_mem hi')
theorem anyF_list {α : Type} (l : List α) (d : α) (p : α → Bool) : anyF l.length (fun i => p (l.getD i d)) = l.any p := by
  unfold anyF
  rw [Bool.eq_iff_iff, List.any_eq_true, List.any_eq_true]
  constructor
  · rintro ⟨i, hi, h⟩
    have hi' := List.mem_range.mp hi
    rw [List.getD_eq_getElem?_getD, List.getElem?_eq_getElem hi'] at h
    exact ⟨_, List.getElem_mem hi', h⟩
  · rintro ⟨y, hy, h⟩
    obtain ⟨i, hi, rfl⟩ := List.getElem_of_mem hy
    refine ⟨i, List.mem_range.mpr hi, ?_⟩
    rw [List.getD_eq_getElem?_getD, List.getElem?_eq_getElem hi]
    exact h
theorem src_str {K : PySem.W.Frag} {H : Hp} (z : Str) : SrcV K H (.str z) z.cps.toList.length (fun i => .str ⟨#[z.cps.toList.getD i 0]⟩) := .inr (.inl ⟨z, rfl, Array.length_toList, fun i c hc => by
  have e : z.cps.toList[i]? = some c := by rw [Array.getElem?_toList]; exact hc
  show V.str ⟨#[z.cps.toList.getD i 0]⟩ = V.str ⟨#[c]⟩
  rw [List.getD_eq_getElem?_getD, e]
  rfl⟩)
/-! ### a def whose code object is known -/
structure FunC (K : PySem.W.Frag) (x qual : Str) (st : Stmt) (f : Addr) (fd : FuncData) (c : Addr) : Prop where
  ex : ∃ (oc : Value) (od : Option Addr) (kV doc pm : Value) (an : Option Addr) (ct : Value) (osl : Array (Option Value)), fd = PySem.W.fnOf x qual (defArgs st) (defBody st) (defScope st) .none kV doc pm an (.ref c) ct ∧ K.lookup f = some ⟨oc, od, .func fd, osl⟩ ∧ PySem.W.codeIn K (.ref c) qual = true
  kp : PySem.W.keepIn K (.ref f) = true
section
variable {P : Program} {w : World} {K : PySem.W.Frag} {mg : Str → Option Value} {base : Heap}
theorem FunC.ok {x qual : Str} {st : Stmt} {f c : Addr} {fd : FuncData} {N ps : List Str} {k : Nat} {sp : Sp} (F : FunC K x qual st f fd c) (S : FnScope N ps (defScope st)) (len : ∀ vs H Q E, sp vs H Q E → vs.length = ps.length)
    (hbody : ∀ (A : Around) (outer : List Env) (s : Shared) (H : Hp) (vs : List V) (Q : VK) (E : XK), Room k (A.deeper (envOfC qual (defScope st) s.heap.objs.size f (.ref c))) → sp vs H Q E →
      ∃ t, PSs (cxOf CX0 P w K mg base N qual (defScope st) f (.ref c) A outer s H E).nox (defBody st) t ∧ t { nx := fun _ H' => Q .non H', rt := Q } (start N vs) H) : FnOk P w K mg base CX0 (k + 1) f fd ps sp := by
  obtain ⟨oc, od, kV, doc, pm, an, ct, osl, rfl, lk, hcd⟩ := F.ex
  exact fn_of lk hcd S len fun A outer s H vs Q E hr hsp => let ⟨t, h, q⟩ := hbody A outer s H vs Q E hr hsp; ⟨t, h.nox, q⟩
theorem FunC.fun {x qual : Str} {st : Stmt} {f c : Addr} {fd : FuncData} (F : FunC K x qual st f fd c) : Fun K x qual st f fd := let ⟨oc, od, kV, doc, pm, an, ct, osl, e, lk, hcd⟩ := F.ex; ⟨⟨oc, od, kV, doc, pm, an, .ref c, ct, osl, e, lk, hcd⟩, F.kp⟩
theorem tab_mk {x : Str} {f c T : Addr} {oc e : Value} {od dd : Option Addr} {osl sl : Array (Option Value)} {fd : FuncData} {vs : Array Value} (a : PySem.W.nsIn K mainGlobals x = some (some (.ref f))) (l : K.lookup f = some ⟨oc, od, .func fd, osl⟩)
    (h : K.lookup c = some ⟨e, dd, .fields vs, sl⟩) (hv : vs[11]? = some (.ref T)) (hc : fd.code = .ref c := by rfl) : PySem.W.tabIn K x = some (c, T) := by
  unfold PySem.W.tabIn
  rw [a]
  dsimp only
  rw [l]
  dsimp only
  rw [hc]
  dsimp only
  rw [h]
  dsimp only
  rw [hv]
theorem funC_mk {x qual : Str} {st : Stmt} {f c T : Addr} {oc : Value} {od an : Option Addr} {osl : Array (Option Value)} {kV doc pm cdv ct : Value} (a : PySem.W.nsIn K mainGlobals x = some (some (.ref f))) (l : K.lookup f = some ⟨oc, od, .func (PySem.W.fnOf x qual (defArgs st) (defBody st) (defScope st) .none kV doc pm an cdv ct), osl⟩)
    (cd : PySem.W.codeIn K cdv qual = true) (k : PySem.W.keepIn K (.ref f) = true) (ht : PySem.W.tabIn K x = some (c, T)) : FunC K x qual st f (PySem.W.fnOf x qual (defArgs st) (defBody st) (defScope st) .none kV doc pm an cdv ct) c := by
  have e : cdv = .ref c := by
    unfold PySem.W.tabIn at ht
    rw [a] at ht
    dsimp only at ht
    rw [l] at ht
    dsimp only [PySem.W.fnOf] at ht
    cases cdv with
    | ref c' =>
      dsimp only at ht
      split at ht
      · split at ht
        · cases ht
          rfl
        · cases ht
      · cases ht
    | _ => cases ht
  subst e
  exact ⟨⟨oc, od, kV, doc, pm, an, ct, osl, rfl, l, cd⟩, k⟩
end
end LS

set_option Elab.async false
set_option linter.all false
set_option maxRecDepth 100000
set_option maxHeartbeats 4000000
namespace LQ
open PySem PySem.Spec PyProof.Rows L2 Evl LT LG LS
/-! ### calls within the elements of a generator expression -/
section
variable {X : Cx} {σ : L2.St} {H : Hp} {P : Addr} {scope : Scope} {x : Str} {u : Value} {a b : Expr} {za zb z : V} {pos p : Pos}
theorem fc_blt {y : Str} {r : Value} {cenv : Env} {A' : Around} {E' : Value → Shared → Prop} {s : Shared} {m : Str → Option Value} {Q : Value → Shared → Prop} (F : Fc X σ H P scope x u cenv A' s m) (hk : scope.kind = .function) (hl : scope.names.lookup y = some .globalImplicit) (hm : X.mg y = none) (hv : bootBuiltins y = some r) (h : Q r s)
    (hn : y ≠ "__name__" := by decide) (hd : (y == ("__debug__" : Str)) = false := by decide) : wpAny (model X.prog X.w) A' (eval (.Name y p) cenv) Q E' s := by
  obtain ⟨mb, h1, h2⟩ := F.md.blt
  exact Calls.Name_function_global (by rw [F.sc]; exact hk) (show cenv.scope.names.lookup y = some .globalImplicit by rw [F.sc]; exact hl) (Calls.loadGlobal_builtin (by rw [F.gl]; exact F.md.glob.keeps F.base) hm (by rw [F.bi]; exact h1.keeps F.base) ((h2 y hn).trans hv) h) hd
theorem qv_blt {y : Str} {r : Value} (hk : scope.kind = .function) (hl : scope.names.lookup y = some .globalImplicit) (hm : X.mg y = none) (hv : bootBuiltins y = some r) (hz : RelV z r) (hn : y ≠ "__name__" := by decide) (hd : (y == ("__debug__" : Str)) = false := by decide) :
    QV X σ H P scope x u (.Name y p) z := fun cenv A' E' s m F => fc_blt F hk hl hm hv ⟨hz, kp_refl _⟩ hn hd
/-- a built-in function of two arguments -/
theorem qv_blt2 {y : Str} {id : String} (hk : scope.kind = .function) (hl : scope.names.lookup y = some .globalImplicit) (hm : X.mg y = none) (hv : bootBuiltins y = some (.builtin id)) (ha : QV X σ H P scope x u a za) (hb : QV X σ H P scope x u b zb) (hr : QR X σ H P scope x u (fun v w => call (.builtin id) [v, w]) za zb z)
    (he : ∀ env, starEach [a, b] env = (false, eval a env) :: starEach [b] env := by intro _; rfl) (h2 : ∀ env, starEach [b] env = [(false, eval b env)] := by intro _; rfl) (hn : y ≠ "__name__" := by decide) (hd : (y == ("__debug__" : Str)) = false := by decide) :
    QV X σ H P scope x u (.Call (.Name y p) [a, b] [] pos) z := fun cenv A' E' s m F => by
  refine wpAny_Call_Name_kw (fc_blt F hk hl hm hv ?_ hn hd)
  refine PyProof.Rows.callWith_builtin1 ?_ (he cenv) (by rw [h2 cenv]; rfl)
  rw [he cenv, h2 cenv]
  show wpAny _ _ (spliced [(false, eval a cenv), (false, eval b cenv)]) _ _ s
  refine Calls.spliced_cons (wpAny_mono (ha cenv A' E' s m F) (fun v s1 r1 => ?_) fun _ _ e => e)
  refine Calls.spliced_cons (wpAny_mono (hb cenv A' E' s1 m (F.keeps r1.2)) (fun w s2 r2 => ?_) fun _ _ e => e)
  exact Calls.spliced_nil (wpAny_mono (hr cenv A' E' s2 m v w ((F.keeps r1.2).keeps r2.2) r1.1 r2.1) (fun y s3 r3 => ⟨r3.1, kp_trans (kp_trans r1.2 r2.2) r3.2⟩) fun _ _ e => e)
/-- what isinstance asks of a value -/
theorem kit_fc {cenv : Env} {A' : Around} {s : Shared} {m : Str → Option Value} {v : Value} {t : Value} (F : Fc X σ H P scope x u cenv A' s m) (hT : Tab H P) (r : RelV z v) (ty : TyOf X.K H z t) (no : ∀ a C dx fs, H a = some (.ins C dx fs) → z ≠ .ref a) :
    ∃ Pz : Heap → Prop, PySem.W.KitX X.K v t Pz ∧ Pz s.heap ∧ v ≠ .builtin "__main__.__loader__#opaque" := by
  have rd : ∀ {a : Addr} {o : HO}, H a = some o → (∀ φ, o ≠ .ext φ) → but P H a = some o := fun {a o} e n => by
    rw [but_ne fun z => by rw [z, hT] at e; exact n _ (Option.some.inj e).symm]
    exact e
  cases ty with
  | non => cases (show v = Value.none from r); exact ⟨_, PySem.W.kitx_none, True.intro, fun z => nomatch z⟩
  | bl y => cases (show v = Value.bool y from r); exact ⟨_, PySem.W.kitx_bool, True.intro, fun z => nomatch z⟩
  | int i => obtain ⟨t, q⟩ := (show ∃ t, v = Value.int i t from r); cases q; exact ⟨_, PySem.W.kitx_int, True.intro, fun z => nomatch z⟩
  | str y => obtain ⟨t, q⟩ := (show ∃ t, v = Value.str y t from r); cases q; exact ⟨_, PySem.W.kitx_str, True.intro, fun z => nomatch z⟩
  | flt y => obtain ⟨t, q⟩ := (show ∃ t, v = Value.float y t from r); cases q; exact ⟨_, PySem.W.kitx_float, True.intro, fun z => nomatch z⟩
  | @lst a xs ea =>
    cases (show v = Value.ref a from r)
    obtain ⟨_, _, n, _, h1⟩ := (show ObjOk X.prog X.w (but P H) s.heap a (.lst xs) from F.hok a _ (rd ea (fun φ z => by cases z)))
    exact ⟨_, PySem.W.kitx_list, ⟨_, h1, rfl⟩, fun z => nomatch z⟩
  | @frz a ob xs ea =>
    cases (show v = Value.ref a from r)
    obtain ⟨_, _, _, n, _, h1⟩ := (show ObjOk X.prog X.w (but P H) s.heap a (.frz ob (.lst xs)) from F.hok a _ (rd ea (fun φ z => by cases z)))
    exact ⟨_, PySem.W.kitx_list, ⟨_, h1, rfl⟩, fun z => nomatch z⟩
  | @tup a xs ea =>
    cases (show v = Value.ref a from r)
    obtain ⟨_, _, _, o, h1, h2, _⟩ := (show ObjOk X.prog X.w (but P H) s.heap a (.tup xs) from F.hok a _ (rd ea (fun φ z => by cases z)))
    exact ⟨_, PySem.W.kitx_tuple, ⟨o, h1, h2⟩, fun z => nomatch z⟩
  | @dK a kvs ea =>
    cases (show v = Value.ref a from r)
    obtain ⟨_, _, vs, _, o, es, ep, h1, h2, _⟩ := F.hok a _ (rd ea (fun φ z => by cases z))
    exact ⟨_, PySem.W.kitx_dict, ⟨o, h1, h2.1⟩, fun z => nomatch z⟩
  | @dT a kvs ea =>
    cases (show v = Value.ref a from r)
    obtain ⟨_, _, xs, _, o, es, ep, h1, h2, _⟩ := F.hok a _ (rd ea (fun φ z => by cases z))
    exact ⟨_, PySem.W.kitx_dict, ⟨o, h1, h2.1⟩, fun z => nomatch z⟩
  | @ins a C dx fs ea cl ha hn htk hm => exact absurd rfl (no a C dx fs ea)
theorem qr_isi {T : String} {t : Value} {b : Bool} (hT : Tab H P) (ty : TyOf X.K H z t) (no : ∀ a C dx fs, H a = some (.ins C dx fs) → z ≠ .ref a) (hk : PySem.W.kitOne X.K t (.type T) = some b) : QR X σ H P scope x u (fun v w => call (.builtin "isinstance") [v, w]) z (.ty T) (.bl b) := fun cenv A' E' s m v w F r1 r2 => by
  cases (show w = Value.type T from r2)
  obtain ⟨Pz, Z, p, hx⟩ := kit_fc F hT r1 ty no
  exact PySem.W.kia_one Z F.kin p hk hx fun tk => ⟨rfl, kp_tok _ _⟩
theorem qv_is {z' : V} (h : QV X σ H P scope x u a z) (e : z = z') : QV X σ H P scope x u a z' := e ▸ h
theorem qv_not {c : Bool} (ha : QV X σ H P scope x u a (.bl c)) : QV X σ H P scope x u (.UnaryOp .Not a pos) (.bl (!c)) := fun cenv A' E' s m F => by
  refine UnaryOp_ (wpAny_mono (ha cenv A' E' s m F) (fun v s1 r1 => ?_) fun _ _ e => e)
  obtain ⟨rfl, k⟩ := r1
  exact not_of (wpAny_truthy_bool ⟨rfl, k⟩)
theorem qv_one {op : BoolOp} (ha : QV X σ H P scope x u a z) : QV X σ H P scope x u (.BoolOp op [a] pos) z := fun cenv A' E' s m F => BoolOp_one (ha cenv A' E' s m F)
theorem qv_and {rest : List Expr} {c d : Bool} (ha : QV X σ H P scope x u a (.bl c)) (hb : c = true → QV X σ H P scope x u (.BoolOp .And (b :: rest) pos) (.bl d)) : QV X σ H P scope x u (.BoolOp .And (a :: b :: rest) pos) (.bl (c && d)) := fun cenv A' E' s m F => by
  refine BoolOp_and (wpAny_mono (ha cenv A' E' s m F) (fun v s1 r1 => ?_) fun _ _ e => e)
  obtain ⟨rfl, k⟩ := r1
  refine wpAny_truthy_bool ?_
  cases c with
  | true => exact wpAny_mono (hb rfl cenv A' E' s1 m (F.keeps k)) (fun y s3 r3 => ⟨r3.1, kp_trans k r3.2⟩) fun _ _ e => e
  | false => exact ⟨rfl, k⟩
theorem qr_ge_int {i j : Int} : QR X σ H P scope x u (compareOp .GtE) (.int i) (.int j) (.bl (decide (j ≤ i))) := fun cenv A' E' s m v w F r1 r2 => by
  obtain ⟨t, rfl⟩ := r1
  obtain ⟨t', rfl⟩ := r2
  exact ge_int ⟨rfl, kp_refl _⟩
/-- an own def of one argument whose body is one return -/
theorem qv_call1 {nm pn qual : Str} {st : Stmt} {f : Addr} {fd : FuncData} {N : List Str} {e : Expr} {rp : Pos} {k : Nat} (hr : Room k X.A) (hk : scope.kind = .function) (hl : scope.names.lookup nm = some .globalImplicit) (hm : X.mg nm = some (.ref f)) (F : Fun X.K nm qual st f fd) (hbody : defBody st = [.Return (some e) rp]) (S : FnScope N [pn] (defScope st)) (hloc : (defScope st).names.lookup pn = some .local)
    (hb : Binds X.K fd [pn] []) (ha : QV X σ H P scope x u a za) (he : ∀ (A0 : Around) (v : Value), RelV za v → QV { X with A := A0 } σ H P (defScope st) pn v e z) (hs : ∀ env, starEach [a] env = (false, eval a env) :: starEach [] env := by intro _; rfl) (hd : (nm == ("__debug__" : Str)) = false := by decide) :
    QV X σ H P scope x u (.Call (.Name nm p) [a] [] pos) z := fun cenv A' E' s m Fc0 => by
  refine wpAny_Call_Name_kw (Calls.Name_function_global (by rw [Fc0.sc]; exact hk) (show cenv.scope.names.lookup nm = some .globalImplicit by rw [Fc0.sc]; exact hl) (Calls.loadGlobal_global (by rw [Fc0.gl]; exact Fc0.md.glob.keeps Fc0.base) hm ?_) hd)
  refine PySem.W.callWith_K (h₀ := X.base) Fc0.md.kin F.kp ?_ (hs cenv) (by rfl)
  rw [hs cenv]
  show wpAny _ _ (spliced ((false, eval a cenv) :: [])) _ _ s
  refine Calls.spliced_cons (wpAny_mono (ha cenv A' E' s m Fc0) (fun v s1 r1 => Calls.spliced_nil ?_) fun _ _ e => e)
  have F1 := Fc0.keeps r1.2
  refine ⟨F1.kin, ?_⟩
  obtain ⟨oc, od, kV, doc, pm, an, cdv, ct, osl, rfl, lk, hcd⟩ := F.ex
  refine wpAny_call (Att.call_fn (binds := [(pn, v)]) F1.kin (F1.md.nolimit.keeps F1.base) lk hcd (by have := hr.dp; have := Fc0.dp; omega) (hb s1 [v] F1.kin rfl) ?_ (fun s2 IC => ?_) S.co S.gen S.kind)
  · simp only [List.all_cons, List.all_nil, Bool.and_true, Bool.or_eq_true, beq_iff_eq]
    exact .inl hloc
  · obtain ⟨h2, tk2, rfl⟩ := IC.toInCall.same
    have kk : ∀ b o, s1.heap.get? b = some o → h2.get? b = some o := IC.toInCall.keep
    rw [hbody]
    have Fn : Fc { X with A := A' } σ H P (defScope st) pn v (envOfC qual (defScope st) s1.heap.objs.size f cdv) (A'.deeper (envOfC qual (defScope st) s1.heap.objs.size f cdv)) { s1 with heap := h2, toks := tk2 } _ :=
      ⟨Fc0.hd, Nat.le_refl _, by show A'.units + 3 ≤ A'.units + 8; omega, rfl, rfl, rfl, IC.toInCall.ns, by
        show bindL _ [(pn, v)] _ pn = some v
        unfold bindL
        have hkd : (envOfC qual (defScope st) s1.heap.objs.size f cdv).kindOf pn = some .local := hloc
        rw [hkd]
        simp [bindL], fun b o e => kk b o (F1.base b o e), F1.md, F1.hok.kept kk, fun i y w h1 h2 h3 h4 => absurd rfl (S.nofree (y, .free) (lookup_mem' h4))⟩
    refine wpAny_execs_cons (wpAny_Return_some (wpAny_mono (he A' v r1.1 _ _ _ _ _ Fn) (fun y s3 r3 => ⟨r3.1, kp_trans (kp_trans r1.2 ⟨h2, tk2, rfl, kk⟩) r3.2⟩) fun _ _ e => e))
end
end LQ

set_option Elab.async false
set_option linter.all false
set_option maxRecDepth 100000
set_option maxHeartbeats 4000000
namespace LX
open PySem PySem.Spec PyProof.Rows L2 Evl LT LG LS
/-! ### own exceptions without arguments -/
abbrev veTail : List Value := [.type "ValueError", .type "Exception", .type "BaseException", .type "object"]
/-- an exception class of the text: its name, what the written part says of it -/
structure Xc (K : PySem.W.Frag) (mg : Str → Option Value) (nm : Str) (C : Addr) : Prop where
  g : mg nm = some (.ref C)
  x : PySem.W.excIn K C veTail "ValueError.__new__" = true
  k : PySem.W.keepIn K (.ref C) = true
  b : PySem.W.subIn K (.ref C) (.type "BaseException") = some true
  t : PySem.W.typeIn K (.ref C) = some (.type "type")
  d : PySem.W.hasDictIn K C = true
section
variable {X : Cx} {C D : Addr} {nm : Str}
theorem pmk_own0 {p pos : Pos} (T : Xc X.K X.mg nm C) (hg : Gl X nm) (hdb : (nm == ("__debug__" : Str)) = false := by decide) : PMk X (.Call (.Name nm p) [] [] pos) (fun _ H Q => Q (.ref C) none H) := by
  intro pins s σ H Q I h
  refine wpAny_Call_Name_kw (ld_glob I hg T.g ?_ hdb)
  refine PySem.W.callWith_K0 I.kIn T.k ?_
  show wpAny _ _ (call (.ref C) []) _ _ _
  obtain ⟨_, _, _, _, _, _, _, _, _, _, _, _, _, _, _, _, _, hC, hN, hni, TT⟩ := exc_obj I.kIn T.x
  refine wpAny_call_exc_subT PySem.F.excBase_ValueError TT hC hN hni (fun h' e hm => ?_) (Nat.zero_le _)
  exact mk_of I hm (raises_own T.b T.t) h (I.hok.gone hm.new)
theorem ps_raise0 {W : WX} {p pos pos2 : Pos} (hc : X.calm = true) (T : Xc X.K X.mg nm C) (tk : Takes X W) (hg : Gl X nm) (hdb : (nm == ("__debug__" : Str)) = false := by decide) : PS X (.Raise (some (.Call (.Name nm p) [] [] pos)) none pos2) (fun _ σ H => W (.ref C) none σ H) := ps_raise hc tk (pmk_own0 T hg hdb)
/-- isinstance(e, c), e what the suite holds -/
def rIsX (K : PySem.W.Frag) (D a : Addr) (cls : Value) (d : Option Addr) : List V → Hp → VK → Prop := fun xs H Q => cls = .ref D ∧ d = none ∧ rIsE K D a xs H Q
theorem call_isX {a : Addr} {oe : Obj} {cls : Value} {d : Option Addr} {pn : List (Addr × Obj)} (C : ExcC X.K D) (hz : Zc cls d oe) (hf : ∃ vs, oe.data = .fields vs) : CallR (X.suite a ((a, oe) :: pn)) (.builtin "isinstance") (rIsX X.K D a cls d) := by
  intro pins s σ H xs us Q I r h
  obtain ⟨rfl, rfl, h⟩ := h
  exact call_isE C hz hf pins s σ H xs us Q I r h
end
section
variable {K : PySem.W.Frag} {mg : Str → Option Value} {C D : Addr} {nm : Str} {b : Bool}
theorem Xc.exm (T : Xc K mg nm C) {cls : Value} (h : PySem.W.subIn K cls (.ref C) = some b) : PySem.W.exmOne K cls (.ref C) = some b := PySem.W.exm_ref T.b T.d T.t h
theorem Xc.kit (T : Xc K mg nm C) {cls : Value} (h : PySem.W.subIn K cls (.ref C) = some b) (hn : cls = .ref C → b = true) : PySem.W.kitOne K cls (.ref C) = some b := by
  have e := T.exm h
  unfold PySem.W.exmOne at e
  rw [T.b] at e
  unfold PySem.W.kitOne
  by_cases q : cls = .ref C
  · rw [hn q, q]
    simp
  · rw [if_neg (by simpa using q)]
    simpa using e
end
/-- a try whose suite returns: what the body's calls that return do, what the suite does -/
theorem ev_isX {K : PySem.W.Frag} {D a C : Addr} {σ : L2.St} {H : Hp} {ta tb : TE} {b : Bool} (h : Ev ta σ H (.ref a)) (hn : Ev tb σ H (.ref C)) (hk : PySem.W.kitOne K (.ref D) (.ref C) = some b) : Ev (tCB (rIsX K D a (.ref D) none) (tCons ta (tCons tb tNil))) σ H (.bl b) :=
  ev_cb (ea_cons h (ea_cons hn ea_nil)) fun H1 e Q q => ⟨rfl, rfl, .ref C, .ref C, b, rfl, fun u hu => hu, hk, q H1 (Ex.refl H1)⟩
theorem pass_own {X : Cx} {E : XK} (tk : Takes X (fun cls d _ H => E cls d H)) : Passes (L2.CX X.prog X.w) X E := passes_call tk fun _ _ _ _ h => h
end LX

set_option Elab.async false
set_option linter.all false
set_option maxRecDepth 100000
set_option maxHeartbeats 4000000
namespace LH
open PySem PySem.Spec PyProof.Rows L2 Evl LT LG
/-! ### generator expressions, whatever their elements do -/
/-- the context of a generator's frame: its own stack, what stands at its start -/
abbrev gnb (X : Cx) (A' : Around) (s : Shared) (H : Hp) (cenv : Env) (fp : List Addr) : Cx :=
  { X with A := A', s_0 := s, H_0 := H, env := cenv, outer := X.stack, stack := cenv :: X.stack, ex := fp, fn := fun _ => false, calm := true, pn := [], xe := fun _ _ => False }
/-- the frame's own environment -/
abbrev gnE (X : Cx) (scope : Scope) (C : Addr) (code : Value) : Env := genEnv scope (cloFrom X.env.cells scope.names []) C code builtinsNs X.env
section
variable {X : Cx} {pins : List (Addr × Obj)} {σ : L2.St} {H : Hp} {s : Shared}
theorem clo_back {cells : List (Str × Addr)} {scope : Scope} (hfree : ∀ y ∈ scope.names, y.2 = .free → ∃ c, cells.lookup y.1 = some c) {y : Str} {c : Addr} (e : (cloFrom cells scope.names []).lookup y = some c) : (y, NameKind.free) ∈ scope.names ∧ cells.lookup y = some c := by
  rcases cloFrom_mem (PySem.mem_of_lookup e) with h | ⟨h1, h2⟩
  · cases h
  · obtain ⟨d, hd⟩ := hfree _ h1 rfl
    have hd' : cells.lookup y = some d := hd
    rw [hd'] at h2
    exact ⟨h1, by rw [hd', h2]; rfl⟩
theorem gen_begin {A' : Around} {scope : Scope} {own : List (Str × Nat)} {fp : List Addr} {code : Value} {m : Str → Option Value} {h' : Heap} {g' : Array GenState} {t' : Nat} (I : Inv X pins σ H s) (ok : BlkOk X.N X.env.scope scope own) (hcell : ∀ y ∈ scope.names, y.2 ≠ .cell) (hN : X.N.Nodup)
    (hfp : ∀ b ∈ fp, FpOk X pins H b ∧ b < s.heap.objs.size) (hA : A'.handled = none) (hfr : A'.frames = some (gnE X scope s.heap.objs.size code :: X.stack)) (hk : ∀ b o, s.heap.get? b = some o → h'.get? b = some o) (hn : h'.Ns s.heap.objs.size m) (hg : AllBare g') :
    Inv (gnb X A' s H (gnE X scope s.heap.objs.size code) fp) [] (wipe σ (own.map (·.2))) H { s with heap := h', gens := g', toks := t' } := by
  have hfree : ∀ y ∈ scope.names, y.2 = .free → ∃ c, X.env.cells.lookup y.1 = some c := fun y hy e => (ok.free y hy e).elim (fun k => I.ok.has _ (.inl k)) fun k => I.ok.has _ (.inr k)
  have back : ∀ {y : Str} {c : Addr}, (gnE X scope s.heap.objs.size code).cells.lookup y = some c → (y, NameKind.free) ∈ scope.names ∧ X.env.cells.lookup y = some c := fun {y c} e => clo_back hfree e
  have clt : ∀ {y : Str} {c : Addr}, X.env.cells.lookup y = some c → c < s.heap.objs.size := fun {y c} e => let ⟨_, z⟩ := I.cell _ _ e; z.lt
  have fwd : ∀ {y : Str}, scope.names.lookup y = some .free → ∃ c, (gnE X scope s.heap.objs.size code).cells.lookup y = some c ∧ X.env.cells.lookup y = some c := fun {y} hl =>
    let ⟨c, hc⟩ := hfree _ (PySem.mem_of_lookup hl) rfl
    ⟨c, clo_lookup (PySem.mem_of_lookup hl) hc, hc⟩
  have okG : (gnb X A' s H (gnE X scope s.heap.objs.size code) fp).Ok := by
    refine ⟨I.ok.mod, ok.kind, I.ok.glob, rfl, Nat.le_refl _, fun y z c e1 e2 => I.ok.inj y z c (back e1).2 (back e2).2, fun y hy => ?_, fun y c z => (Bool.noConfusion (show false = true from z)), fun _ => hA, hfr, .inr ⟨rfl, rfl⟩, fun b hb => ⟨Nat.ne_of_lt (hfp b hb).2, fun y c e z => (hfp b hb).1.2.2.2.2.1 y c (back e).2 z⟩, I.bs, Nat.le_trans I.ok.bsz I.sz, fun b o e hb => ?_, fun b hb z => ?_, I.stack, I.stkFree⟩
    · rcases hy with hy | hy
      · exact absurd rfl (hcell _ (PySem.mem_of_lookup (show scope.names.lookup y = some .cell from hy)))
      · obtain ⟨c, h1, _⟩ := fwd (show scope.names.lookup y = some .free from hy)
        exact ⟨c, h1⟩
    · rcases (hfp b hb).1.2.2.2.1 with z | z
      · exact I.ok.noex b o e z
      · exact Nat.lt_irrefl _ (Nat.lt_of_lt_of_le (Nat.lt_of_lt_of_le (Heap.lt_size e) I.ok.bsz) z)
    · rcases List.mem_cons.mp (I.stkSub b z) with z | z
      · exact (hfp b hb).1.2.1 z
      · exact (hfp b hb).1.2.2.1 z
  refine ⟨okG, rfl, hg, Un.kept hk, ⟨m, hn, fun i y av e1 e2 e3 => ?_⟩, fun y c e => ?_, I.hok.fresh (Nat.le_refl _), fun y c e => I.freeC y c (back e).2, fun p hp => absurd (show p ∈ ([] : List (Addr × Obj)) ++ [] from hp) (by simp), I.hok.kept hk, by rw [wipe_length]; exact I.len⟩
  · obtain ⟨e2, hne⟩ := wipe_some e2
    have hfr : scope.names.lookup y = some .free := by
      have no : ∀ k, scope.names.lookup y = some k → ¬ (k = .local ∨ k = .cell) := fun k hk hh => by
        rcases ok.own _ (PySem.mem_of_lookup hk) hh with e' | e'
        · obtain ⟨p, hp, hpy⟩ := List.mem_map.mp e'
          have e4 := ok.ix p hp
          have : p.1 = y := hpy
          rw [this] at e4
          exact hne (List.mem_map.mpr ⟨p, hp, nodup_ix hN e4 e1⟩)
        · exact e' (List.mem_of_getElem? e1)
      rcases (show Vis scope y from e3) with e3 | e3 | e3
      · exact absurd (.inl rfl) (no _ e3)
      · exact absurd (.inr rfl) (no _ e3)
      · exact e3
    obtain ⟨m0, _, hl⟩ := I.loc
    have hvis : Vis X.env.scope y := (ok.free _ (PySem.mem_of_lookup hfr) rfl).elim (fun k => .inr (.inl k)) fun k => .inr (.inr k)
    obtain ⟨w, r, q⟩ := hl i y av e1 e2 hvis
    obtain ⟨c, h1, h2⟩ := fwd hfr
    refine ⟨w, r, .inr ⟨.inr hfr, c, h1, ?_⟩⟩
    rcases q with ⟨k, _⟩ | ⟨_, c', e', z⟩
    · have k : X.env.scope.names.lookup y = some .local := k
      rcases ok.free _ (PySem.mem_of_lookup hfr) rfl with k' | k' <;> rw [show X.env.scope.names.lookup y = _ from k'] at k <;> cases k
    · rw [h2] at e'; cases e'
      exact z.keeps hk
  · obtain ⟨w, z⟩ := I.cell y c (back e).2
    exact ⟨w, z.keeps hk⟩
/-! ### turns -/
/-- what stands between two turns: i taken -/
def Btw (Y : Cx) (a : Addr) (oa : Obj) (τ : L2.St) (fp : List Addr) (tn : Nat → Heap → Prop) (W : Nat → Hp → Prop) (Sp : List Addr) (i : Nat) (s : Shared) : Prop :=
  ∃ (H' : Hp) (ps : List (Addr × Obj)), ps.map (·.1) = Sp ∧ Inv Y ((a, oa) :: ps) τ H' s ∧ tn i s.heap ∧ (∀ b ∈ fp, FpOk Y ((a, oa) :: ps) H' b) ∧ W i H'
/-- the end -/
def Gone (Y : Cx) (a : Addr) (oa : Obj) (τ : L2.St) (W : Nat → Hp → Prop) (n : Nat) (Sp : List Addr) (s : Shared) : Prop :=
  ∃ (H' : Hp) (ps : List (Addr × Obj)) (i : Nat), i ≤ n ∧ ps.map (·.1) = Sp ∧ Inv Y ((a, oa) :: ps) τ H' s ∧ W i H'
def Same (Sp : List Addr) (s s' : Shared) : Prop := ∀ b ∈ Sp, ∃ o, s.heap.get? b = some o ∧ s'.heap.get? b = some o
theorem Same.trans {Sp : List Addr} {s s1 s2 : Shared} (a : Same Sp s s1) (b : Same Sp s1 s2) : Same Sp s s2 := fun x hx => by
  obtain ⟨o, h1, h2⟩ := a x hx
  obtain ⟨o', h3, h4⟩ := b x hx
  rw [h2] at h3
  cases h3
  exact ⟨o, h1, h4⟩
theorem same_pins {Y : Cx} {p : Addr × Obj} {ps q1 q2 : List (Addr × Obj)} {τ τ' : L2.St} {H H' : Hp} {s s' : Shared} (I : Inv Y (p :: ps ++ q1) τ H s) (I' : Inv Y (p :: ps ++ q2) τ' H' s') : Same (ps.map (·.1)) s s' := fun b hb => by
  obtain ⟨x, hx, rfl⟩ := List.mem_map.mp hb
  have m : ∀ q, x ∈ Y.pn ++ (p :: ps ++ q) := fun q => List.mem_append_right _ (List.mem_append_left _ (List.mem_cons_of_mem _ hx))
  exact ⟨x.2, (I.pin x (m _)).1, (I'.pin x (m _)).1⟩
theorem same_pins0 {Y : Cx} {p : Addr × Obj} {ps : List (Addr × Obj)} {τ τ' : L2.St} {H H' : Hp} {s s' : Shared} (I : Inv Y (p :: ps) τ H s) (I' : Inv Y (p :: ps) τ' H' s') : Same (ps.map (·.1)) s s' :=
  same_pins (q1 := []) (q2 := []) (by simpa using I) (by simpa using I')
/-- what is handed out -/
def GPr (vals : Nat → V) (n : Nat) (Sp : List Addr) (J : Nat → Shared → Prop) : Protocol := fun m s₀ v s kap =>
  ∃ i, i + m + 1 = n ∧ RelV (vals i) v ∧ Same Sp s₀ s ∧ J (i + 1) s ∧ ∀ s'', J (i + 1) s'' → kap (.send .none) s''
theorem seg_turns {A₁ : Around} {elt tg iter : Expr} {scope : Scope} {pos : Pos} {it a : Addr} {oa : Obj} {cenv : Env} {Y : Cx} {fp : List Addr} {tn : Nat → Heap → Prop} {J : It} {W : Nat → Hp → Prop} {Sp : List Addr} {n : Nat} {vals : Nat → V} {g : TG} {te : TE} {vs : List Nat} {σ : L2.St}
    (hYA : Y.A = A₁.over (.compLoop (.GeneratorExp elt [⟨tg, iter, [], 0⟩] scope pos) 0 (.ref it) .none cenv) []) (hYe : Y.env = cenv) (hc : Y.calm = true) (hxe : Y.xe = fun _ _ => False) (hco : cenv.scope.isCoroutine = false) (T : Turn Y.prog Y.w Y.K tg J fp it tn) (pg : PG Y tg g) (pe : PE Y elt te)
    (turn : ∀ i H', i < n → W i H' → J.go i H' ∧ ∀ x H2, J.yld i H' x H2 → g x (wipe σ vs) H2 fun σ2 H3 => wipe σ2 vs = wipe σ vs ∧ te σ2 H3 fun y H4 => y = vals i ∧ W (i + 1) H4) (stop : ∀ H', W n H' → J.stop n H') :
    ∀ (k i : Nat) (s₀ s : Shared), n - i = k → i ≤ n → Same Sp s₀ s → Btw Y a oa (wipe σ vs) fp tn W Sp i s →
      Seg (model Y.prog Y.w) A₁ (fun m s₀ r s₁ => r = .ok .next ∧ (m = 0 ∧ (Same Sp s₀ s₁ ∧ Gone Y a oa (wipe σ vs) W n Sp s₁))) (GPr vals n Sp (Btw Y a oa (wipe σ vs) fp tn W Sp)) (n - i) s₀
        (.compLoop (.GeneratorExp elt [⟨tg, iter, [], 0⟩] scope pos) 0 (.ref it) .none cenv) ((model Y.prog Y.w).den (.compLoop (.GeneratorExp elt [⟨tg, iter, [], 0⟩] scope pos) 0 (.ref it) .none cenv)) [] s := by
  intro k
  induction k with
  | zero =>
    intro i s₀ s hk hi hS ⟨H', ps, hps, I, st, hf, w⟩
    obtain rfl : i = n := by omega
    show Seg _ A₁ _ _ _ s₀ _ ((compTurn (.GeneratorExp elt [⟨tg, iter, [], 0⟩] scope pos) 0 (.ref it) .none cenv).onRaise (leaving cenv)) [] s
    rw [compTurn_gen, Sem.onRaise_eq_wrap]
    refine seg_bind_wrap (wpAny_standAt (seg_bind_wrap ?_))
    have td := T.done Y rfl rfl rfl hc i _ s _ H' (fun _ _ => False) I hf st (stop _ w)
    rw [hYA] at td
    refine thnF td fun r s1 ⟨hr, I1⟩ => ?_
    subst hr
    exact seg_end (.ok .next) ⟨rfl, by omega, hS.trans (hps ▸ same_pins0 I I1), H', ps, i, Nat.le_refl _, hps, I1, w⟩
  | succ k ih =>
    intro i s₀ s hk hi hS ⟨H', ps, hps, I, st, hf, w⟩
    have hlt : i < n := by omega
    obtain ⟨m, hm⟩ : ∃ m, n - i = m + 1 := ⟨n - i - 1, by omega⟩
    show Seg _ A₁ _ _ _ s₀ _ ((compTurn (.GeneratorExp elt [⟨tg, iter, [], 0⟩] scope pos) 0 (.ref it) .none cenv).onRaise (leaving cenv)) [] s
    rw [compTurn_gen, Sem.onRaise_eq_wrap]
    refine seg_bind_wrap (wpAny_standAt (seg_bind_wrap ?_))
    obtain ⟨go, step⟩ := turn i H' hlt w
    have ti := T.item Y rfl rfl rfl hc i _ s _ H' (fun _ _ => False) I hf st go
    rw [hYA] at ti
    refine thnF ti fun r s6 ⟨u, hr, h6⟩ => ?_
    subst hr
    refine seg_bind_wrap (thnF h6 fun _ s7 ⟨x, H7, I7, r7, y7, st7, n7⟩ => ?_)
    have hf7 : ∀ b ∈ fp, FpOk Y ((a, oa) :: ps) H7 b := fun b hb => ⟨n7 b hb, (hf b hb).2⟩
    have I7' := I7.pinned hf7 (T.obj _ _ st7)
    have pgr := pg.run _ s7 _ H7 x u _ I7' r7 (step x H7 y7)
    rw [hYA, hYe, hxe] at pgr
    refine seg_bind_wrap (thnF pgr fun _ s8 ⟨σ8, H8, I8, hw8, q8⟩ => ?_)
    refine seg_bind_wrap (wpAny_tests_nil ?_)
    simp only [if_true]
    have hy : ∀ v, yieldOut cenv v = yieldValue v := fun v => by simp only [yieldOut, hco, Bool.false_eq_true, if_false]
    simp only [hy]
    rw [Sem.bind_eq_wrap', Sem.bind_eq_wrap', Sem.wrap_wrap, Sem.wrap_wrap, hm]
    have per := pe.run _ s8 σ8 H8 _ I8 q8
    rw [hYA, hYe, hxe] at per
    refine seg_wrap (thnF per fun v s9 ⟨y, H9, I9, r9, ey, w9⟩ => ?_)
    subst ey
    have keep : ∀ b ∈ fp, ∀ o, s7.heap.get? b = some o → s9.heap.get? b = some o ∧ H9 b = none := fun b hb o e =>
      let z := I9.pin (b, o) (List.mem_append_right _ (List.mem_append_right _ (mem_pinsAt hb e)))
      ⟨z.1, z.2.1⟩
    have hl : (wipe σ vs).length = σ8.length := by rw [← hw8, wipe_length]
    have B9 : Btw Y a oa (wipe σ vs) fp tn W Sp (i + 1) s9 := ⟨H9, ps, hps, (I9.unpinned).weak hl fun j v e => by
        rw [← hw8] at e
        exact (wipe_some e).1, T.keep _ _ _ st7 fun b hb o e => (keep b hb o e).1, fun b hb => by
        obtain ⟨o, e, _⟩ := T.obj _ _ st7 b hb
        exact ⟨(keep b hb o e).2, (hf b hb).2⟩, w9⟩
    have S9 : Same Sp s₀ s9 := hS.trans (hps ▸ same_pins (q1 := []) (by simpa using I) I9)
    refine seg_at (seg_yield rfl rfl rfl ⟨i, by omega, r9, S9, B9, fun s'' B'' => ?_⟩)
    have e1 : m = n - (i + 1) := by omega
    rw [e1]
    exact seg_again rfl (ih (i + 1) s'' s'' (by omega) hlt (fun b hb => by
      obtain ⟨H2, ps2, hps2, I2, _⟩ := B''
      rw [← hps2] at hb
      obtain ⟨z, hz, rfl⟩ := List.mem_map.mp hb
      exact ⟨z.2, (I2.pin z (List.mem_append_right _ (List.mem_cons_of_mem _ hz))).1, (I2.pin z (List.mem_append_right _ (List.mem_cons_of_mem _ hz))).1⟩) B'')
end
end LH
namespace LH
open PySem PySem.Spec PyProof.Rows L2 Evl LT LG
section
variable {prog : Program} {w : World} {A : Around} {E : Value → Shared → Prop} {s : Shared}
/-- the generator number g, j of its n items taken -/
def GSt (prog : Program) (w : World) (A : Around) (g n : Nat) (vals : Nat → V) (Sp : List Addr) (J : Nat → Shared → Prop) (Fn : Shared → Prop) (j : Nat) (s : Shared) : Prop :=
  J j s ∧ ∃ gs, s.gens[g]? = some gs ∧ ∀ s'', J j s'' → gs.Goes (model prog w) A.in1 (fun m s₀ r s₁ => r = .ok .next ∧ (m = 0 ∧ (Same Sp s₀ s₁ ∧ Fn s₁))) (GPr vals n Sp J) (n - j) (.send .none) s''
structure JOk (a : Addr) (g : Nat) (J : Nat → Shared → Prop) (Fn : Shared → Prop) : Prop where
  gen : ∀ j s, J j s → s.heap.IsGen a g
  lim : ∀ j s, J j s → s.heap.NoLimit
  set : ∀ j s x, x.bare = true → J j s → J j (s.setGen g x)
  fin : ∀ s h', Fn s → (∀ b o, s.heap.get? b = some o → h'.get? b = some o) → Fn { s.setGen g .finished with heap := h' }
/-- what a consumer may do with the iterator at a -/
structure WG (prog : Program) (w : World) (A : Around) (a : Addr) (n : Nat) (vals : Nat → V) (Sp : List Addr) (St : Nat → Shared → Prop) (Fin : Shared → Prop) : Prop where
  item : ∀ i (s : Shared) (Q : Option Value → Shared → Prop) (E : Value → Shared → Prop), i < n → St i s → (∀ v s', RelV (vals i) v → St (i + 1) s' → Same Sp s s' → Q (some v) s') → wpAny (model prog w) A (pyNext (.ref a)) Q E s
  done : ∀ (s : Shared) (Q : Option Value → Shared → Prop) (E : Value → Shared → Prop), St n s → (∀ s', Fin s' → Same Sp s s' → Q none s') → wpAny (model prog w) A (pyNext (.ref a)) Q E s
  self : ∀ i (s : Shared) (Q : Value → Shared → Prop) (E : Value → Shared → Prop), St i s → Q (.ref a) s → wpAny (model prog w) A (pyIter (.ref a)) Q E s
  fin : ∀ i s, i ≤ n → St i s → Fin s
  upd : ∀ i (s : Shared) h' tk, St i s → (∀ b o, b ∉ Sp → s.heap.get? b = some o → h'.get? b = some o) → (∀ b ∈ Sp, ∃ o, h'.get? b = some o ∧ ∀ v, o.data ≠ .cell v) → St i { s with heap := h', toks := tk }
  finU : ∀ (s : Shared) h' tk, Fin s → (∀ b o, b ∉ Sp → s.heap.get? b = some o → h'.get? b = some o) → (∀ b ∈ Sp, ∃ o, h'.get? b = some o ∧ ∀ v, o.data ≠ .cell v) → Fin { s with heap := h', toks := tk }
theorem WG.of_in1 {a : Addr} {n : Nat} {vals : Nat → V} {Sp : List Addr} {St : Nat → Shared → Prop} {Fin : Shared → Prop} (W : WG prog w A.in1 a n vals Sp St Fin) : WG prog w A a n vals Sp St Fin :=
  ⟨fun i s Q E hi st hQ => wpAny_of_in1 (W.item i s Q E hi st hQ), fun s Q E st hQ => wpAny_of_in1 (W.done s Q E st hQ), fun i s Q E st hQ => wpAny_of_in1 (W.self i s Q E st hQ), W.fin, W.upd, W.finU⟩
theorem gst_item {a : Addr} {g n j : Nat} {vals : Nat → V} {Sp : List Addr} {J : Nat → Shared → Prop} {Fn : Shared → Prop} {Q : Option Value → Shared → Prop} (hh : A.handled = none) (hroom : A.depth < recursionLimit) (K : JOk a g J Fn) (hj : j < n) (st : GSt prog w A g n vals Sp J Fn j s)
    (hQ : ∀ v s', RelV (vals j) v → GSt prog w A g n vals Sp J Fn (j + 1) s' → Same Sp s s' → Q (some v) s') : wpAny (model prog w) A (pyNext (.ref a)) Q E s := by
  obtain ⟨hJ, gs, hgs, hgo⟩ := st
  obtain ⟨m, hm⟩ : ∃ m, n - j = m + 1 := ⟨n - j - 1, by omega⟩
  rw [hm] at hgo
  refine GenW.wpAny_gsz (Nat.le_refl s.gens.size) (wpAny_pyNext_genexpQ (P := fun k s₀ s₁ => k = 0 ∧ (Same Sp s₀ s₁ ∧ Fn s₁)) hh (K.lim _ _ hJ) hroom (K.gen _ _ hJ) hgs (hgo _ (K.set _ _ _ rfl hJ)) (fun v s₁ gs' hb hv => ?_) (fun s₁ hp h' hk => absurd hp.1 (Nat.succ_ne_zero m)))
  obtain ⟨i, hi, hr, hS, hJ1, hkap⟩ := hv
  intro hsz
  obtain rfl : i = j := by omega
  have hgl : g < s₁.gens.size := by
    rw [GenW.setGen_size] at hsz
    exact Nat.lt_of_lt_of_le (Array.getElem?_eq_some_iff.mp hgs).1 hsz
  refine hQ v _ hr ⟨K.set _ _ _ hb hJ1, gs', by simp [Shared.setGen, hgl], fun s'' hs => ?_⟩ hS
  have e : n - (i + 1) = m := by omega
  rw [e]
  exact hkap s'' hs
theorem gst_done {a : Addr} {g n : Nat} {vals : Nat → V} {Sp : List Addr} {J : Nat → Shared → Prop} {Fn : Shared → Prop} {Q : Option Value → Shared → Prop} (hh : A.handled = none) (hroom : A.depth < recursionLimit) (K : JOk a g J Fn) (st : GSt prog w A g n vals Sp J Fn n s)
    (hQ : ∀ s', Fn s' → Same Sp s s' → Q none s') : wpAny (model prog w) A (pyNext (.ref a)) Q E s := by
  obtain ⟨hJ, gs, hgs, hgo⟩ := st
  rw [Nat.sub_self] at hgo
  refine wpAny_pyNext_genexpQ (P := fun k s₀ s₁ => k = 0 ∧ (Same Sp s₀ s₁ ∧ Fn s₁)) hh (K.lim _ _ hJ) hroom (K.gen _ _ hJ) hgs (hgo _ (K.set _ _ _ rfl hJ)) (fun v s₁ gs' hb hv => ?_) (fun s₁ hp h' hk => ?_)
  · obtain ⟨i, _, _, _, hJ1, hkap⟩ := hv
    exact (hkap s₁ hJ1).elim
  · exact hQ _ (K.fin _ _ hp.2.2 hk) fun b hb => let ⟨o, h1, h2⟩ := hp.2.1 b hb; ⟨o, h1, hk _ _ h2⟩
end
/-! ### consumers -/
section
variable {prog : Program} {w : World} {A : Around} {E : Value → Shared → Prop} {R : Result → Shared → Prop} {s : Shared} {a : Addr} {n : Nat} {vals : Nat → V} {St : Nat → Shared → Prop} {Fin : Shared → Prop}
theorem drop_at {n i : Nat} (h : i < n) : (List.range n).drop i = i :: (List.range n).drop (i + 1) := by
  rw [List.drop_eq_getElem_cons (by rw [List.length_range]; exact h), List.getElem_range]
theorem all_turns {f : Nat → Bool} (W : WG prog w A.in1 a n vals [] St Fin) (hv : ∀ i, vals i = .bl (f i)) : ∀ (k i : Nat) (s : Shared), n - i = k → i ≤ n → St i s → (∀ s', Fin s' → R (.ok (.ret (.bool (((List.range n).drop i).all f)))) s') → codeAny (model prog w) A (.builtin "all.loop" ⟨[.ref a], []⟩) R s := by
  intro k
  induction k with
  | zero =>
    intro i s hk hi st hR
    obtain rfl : i = n := by omega
    refine codeAny_builtin F.entry_all_loop (by
      rw [Around.under_plainId F.plain_all_loop _]
      show wpAny _ A.in1 (pyNext (.ref a) >>= _) _ _ s
      refine wpAny_bind (W.done s _ _ st fun s' hF _ => wpAny_bind (wpAny_rule (wpAny_pure ?_)))
      have q := hR s' hF
      rw [List.drop_of_length_le (by rw [List.length_range] <;> exact Nat.le_refl _)] at q
      exact q)
  | succ k ih =>
    intro i s hk hi st hR
    have hlt : i < n := by omega
    refine codeAny_builtin F.entry_all_loop (by
      rw [Around.under_plainId F.plain_all_loop _]
      show wpAny _ A.in1 (pyNext (.ref a) >>= _) _ _ s
      refine wpAny_bind (W.item i s _ _ hlt st fun v s' r st' _ => wpAny_bind (wpAny_holding ?_))
      rw [hv i] at r
      obtain rfl : v = .bool (f i) := r
      rw [drop_at hlt, List.all_cons] at hR
      refine wpAny_truthy_bool (wpAny_bind (wpAny_letGo ?_))
      cases hb : f i with
      | true =>
        rw [hb] at hR
        exact wpAny_pure ⟨plainId_quiet F.plain_all_loop _, ih (i + 1) s' (by omega) hlt st' hR⟩
      | false =>
        rw [hb] at hR
        exact wpAny_bind (wpAny_rule (wpAny_pure (hR s' (W.fin _ _ hlt st')))))
theorem any_turns {f : Nat → Bool} (W : WG prog w A.in1 a n vals [] St Fin) (hv : ∀ i, vals i = .bl (f i)) : ∀ (k i : Nat) (s : Shared), n - i = k → i ≤ n → St i s → (∀ s', Fin s' → R (.ok (.ret (.bool (((List.range n).drop i).any f)))) s') → codeAny (model prog w) A (.builtin "any.loop" ⟨[.ref a], []⟩) R s := by
  intro k
  induction k with
  | zero =>
    intro i s hk hi st hR
    obtain rfl : i = n := by omega
    refine codeAny_builtin F.entry_any_loop (by
      rw [Around.under_plainId F.plain_any_loop _]
      show wpAny _ A.in1 (pyNext (.ref a) >>= _) _ _ s
      refine wpAny_bind (W.done s _ _ st fun s' hF _ => wpAny_bind (wpAny_rule (wpAny_pure ?_)))
      have q := hR s' hF
      rw [List.drop_of_length_le (by rw [List.length_range] <;> exact Nat.le_refl _)] at q
      exact q)
  | succ k ih =>
    intro i s hk hi st hR
    have hlt : i < n := by omega
    refine codeAny_builtin F.entry_any_loop (by
      rw [Around.under_plainId F.plain_any_loop _]
      show wpAny _ A.in1 (pyNext (.ref a) >>= _) _ _ s
      refine wpAny_bind (W.item i s _ _ hlt st fun v s' r st' _ => wpAny_bind (wpAny_holding ?_))
      rw [hv i] at r
      obtain rfl : v = .bool (f i) := r
      rw [drop_at hlt, List.any_cons] at hR
      refine wpAny_truthy_bool (wpAny_bind (wpAny_letGo ?_))
      cases hb : f i with
      | false =>
        rw [hb] at hR
        exact wpAny_pure ⟨plainId_quiet F.plain_any_loop _, ih (i + 1) s' (by omega) hlt st' hR⟩
      | true =>
        rw [hb] at hR
        exact wpAny_bind (wpAny_rule (wpAny_pure (hR s' (W.fin _ _ hlt st')))))
theorem call_allG {f : Nat → Bool} {Q : Value → Shared → Prop} (W : WG prog w A.in1 a n vals [] St Fin) (hv : ∀ i, vals i = .bl (f i)) (st : St 0 s) (hQ : ∀ s', Fin s' → Q (.bool (allF n f)) s') : wpAny (model prog w) A (call (.builtin "all") [.ref a]) Q E s := by
  refine call_function_tree F.kind_all F.plain_all F.entry_all (F.args_all1 _) (by
    unfold Builtin.«all»
    refine wpAny_bind (m := oneArg "all" _) (wpAny_pure (wpAny_bind (W.self 0 s _ _ st ?_)))
    exact wpAny_pure ⟨plainId_quiet F.plain_all_loop _, all_turns W hv n 0 s rfl (Nat.zero_le _) st fun s' hF => by simpa [allF] using hQ s' hF⟩)
theorem call_anyG {f : Nat → Bool} {Q : Value → Shared → Prop} (W : WG prog w A.in1 a n vals [] St Fin) (hv : ∀ i, vals i = .bl (f i)) (st : St 0 s) (hQ : ∀ s', Fin s' → Q (.bool (anyF n f)) s') : wpAny (model prog w) A (call (.builtin "any") [.ref a]) Q E s := by
  refine call_function_tree F.kind_any F.plain_any F.entry_any (F.args_any1 _) (by
    unfold Builtin.«any»
    refine wpAny_bind (m := oneArg "any" _) (wpAny_pure (wpAny_bind (W.self 0 s _ _ st ?_)))
    exact wpAny_pure ⟨plainId_quiet F.plain_any_loop _, any_turns W hv n 0 s rfl (Nat.zero_le _) st fun s' hF => by simpa [anyF] using hQ s' hF⟩)
end
end LH
namespace LH
open PySem PySem.Spec PyProof.Rows L2 Evl LT LG
section
variable {X : Cx} {pins : List (Addr × Obj)} {σ : L2.St} {H : Hp} {s : Shared}
theorem inv_setGen {g : Nat} {x : GenState} (I : Inv X pins σ H s) (hx : x.bare = true) : Inv X pins σ H (s.setGen g x) :=
  ⟨I.ok, I.os, L2.allBare_setGen I.bare hx, I.base, I.loc, I.cell, I.free, I.freeC, I.pin, I.hok, I.len⟩
theorem pins_map {Sp : List Addr} {h : Heap} (hn : ∀ b ∈ Sp, ∃ o, h.get? b = some o ∧ ∀ v, o.data ≠ .cell v) : (pinsAt Sp h).map (·.1) = Sp := by
  induction Sp with
  | nil => rfl
  | cons b r ih =>
    obtain ⟨o, ho, _⟩ := hn b List.mem_cons_self
    have := ih fun c hc => hn c (List.mem_cons_of_mem _ hc)
    unfold pinsAt at this ⊢
    rw [List.filterMap_cons, ho]
    show b :: _ = _
    rw [this]
theorem inv_spec {Y : Cx} {p : Addr × Obj} {ps : List (Addr × Obj)} {Sp : List Addr} {τ : L2.St} {h' : Heap} {tk : Nat} (hpn : Y.pn = []) (hps : ps.map (·.1) = Sp) (hSp : ∀ b ∈ Sp, Y.s_0.heap.objs.size ≤ b ∧ b ≠ p.1) (I : Inv Y (p :: ps) τ H s)
    (k : ∀ b o, b ∉ Sp → s.heap.get? b = some o → h'.get? b = some o) (hn : ∀ b ∈ Sp, ∃ o, h'.get? b = some o ∧ ∀ v, o.data ≠ .cell v) : Inv Y (p :: pinsAt Sp h') τ H { s with heap := h', toks := tk } := by
  have pin : ∀ b ∈ Sp, H b = none ∧ b ≠ Y.env.locals ∧ b ∉ Y.fs ∧ ∃ o, s.heap.get? b = some o ∧ ∀ v, o.data ≠ .cell v := fun b hb => by
    rw [← hps] at hb
    obtain ⟨z, hz, rfl⟩ := List.mem_map.mp hb
    have y := I.pin z (List.mem_append_right _ (List.mem_cons_of_mem _ hz))
    exact ⟨y.2.1, y.2.2.1, y.2.2.2.1, z.2, y.1, y.2.2.2.2⟩
  have I1 : Inv Y [p] τ H s := I.pins_of fun q hq => I.pin q (List.mem_append_right _ (by rw [List.mem_singleton.mp hq]; exact List.mem_cons_self))
  have I2 := I1.turnedL (t' := tk) (ch := Sp) (h' := h') k fun b hb => ⟨(pin b hb).1, (pin b hb).2.1, (pin b hb).2.2.1, .inr (hSp b hb).1, fun x c e z => by
      obtain ⟨v, o', h1, h2⟩ := I.cell x c e
      obtain ⟨o, h3, h4⟩ := (pin b hb).2.2.2
      rw [z, h3] at h1
      cases h1
      exact h4 _ h2, fun q hq => by
      rw [hpn, List.nil_append] at hq
      rw [List.mem_singleton.mp hq]
      exact (hSp b hb).2.symm⟩
  refine I2.pins_of fun q hq => ?_
  rcases List.mem_cons.mp hq with rfl | hq
  · exact I2.pin _ (List.mem_append_right _ List.mem_cons_self)
  · obtain ⟨hb, e⟩ := of_pinsAt hq
    obtain ⟨o, h1, h2⟩ := hn _ hb
    rw [e] at h1
    cases h1
    exact ⟨e, (pin _ hb).1, (pin _ hb).2.1, (pin _ hb).2.2.1, h2⟩
section
variable {Y : Cx} {a : Addr} {oa : Obj} {τ : L2.St} {fp : List Addr} {tn : Nat → Heap → Prop} {W : Nat → Hp → Prop} {Sp : List Addr} {i n g : Nat} {J : It} {tg : Expr} {it : Addr}
theorem btw_upd {h' : Heap} {tk : Nat} (T : Turn Y.prog Y.w Y.K tg J fp it tn) (hpn : Y.pn = []) (hSp : ∀ b ∈ Sp, Y.s_0.heap.objs.size ≤ b ∧ b ≠ a) (B : Btw Y a oa τ fp tn W Sp i s) (k : ∀ b o, b ∉ Sp → s.heap.get? b = some o → h'.get? b = some o) (hn : ∀ b ∈ Sp, ∃ o, h'.get? b = some o ∧ ∀ v, o.data ≠ .cell v) :
    Btw Y a oa τ fp tn W Sp i { s with heap := h', toks := tk } := by
  obtain ⟨H', ps, hps, I, st, hf, w⟩ := B
  have nf : ∀ b ∈ fp, b ∉ Sp := fun b hb z => by
    rw [← hps] at z
    obtain ⟨q, hq, e⟩ := List.mem_map.mp z
    exact (hf b hb).2.2.2.2.2 q (List.mem_append_right _ (List.mem_cons_of_mem _ hq)) e
  refine ⟨H', _, pins_map hn, inv_spec hpn hps hSp I k hn, T.keep _ _ _ st fun b hb o e => k b o (nf b hb) e, fun b hb => ⟨(hf b hb).1, (hf b hb).2.1, (hf b hb).2.2.1, (hf b hb).2.2.2.1, (hf b hb).2.2.2.2.1, fun q hq e => ?_⟩, w⟩
  rw [hpn, List.nil_append] at hq
  rcases List.mem_cons.mp hq with rfl | hq
  · exact (hf b hb).2.2.2.2.2 (a, oa) (List.mem_append_right _ List.mem_cons_self) e
  · exact nf b hb (e ▸ (of_pinsAt hq).1)
theorem gone_upd {h' : Heap} {tk : Nat} (hpn : Y.pn = []) (hSp : ∀ b ∈ Sp, Y.s_0.heap.objs.size ≤ b ∧ b ≠ a) (B : Gone Y a oa τ W n Sp s) (k : ∀ b o, b ∉ Sp → s.heap.get? b = some o → h'.get? b = some o) (hn : ∀ b ∈ Sp, ∃ o, h'.get? b = some o ∧ ∀ v, o.data ≠ .cell v) :
    Gone Y a oa τ W n Sp { s with heap := h', toks := tk } := by
  obtain ⟨H', ps, i, hi, hps, I, w⟩ := B
  exact ⟨H', _, i, hi, pins_map hn, inv_spec hpn hps hSp I k hn, w⟩
theorem jok (hG : ∀ h : Heap, h.get? a = some oa → h.IsGen a g) : JOk a g (Btw Y a oa τ fp tn W Sp) (Gone Y a oa τ W n Sp) :=
  ⟨fun j s ⟨_, _, _, I, _⟩ => hG _ (I.pin (a, oa) (List.mem_append_right _ List.mem_cons_self)).1, fun j s ⟨_, _, _, I, _⟩ => I.nolimit, fun j s x hx ⟨H', ps, hps, I, r⟩ => ⟨H', ps, hps, inv_setGen I hx, r⟩,
    fun s h' ⟨H', ps, i, hi, hps, I, w⟩ k => by
      have J := (inv_setGen (g := g) (x := .finished) I rfl).kept (t' := s.toks) (h' := h') k
      refine ⟨H', ps, i, hi, hps, ?_, w⟩
      exact J.pins_of fun q hq => by
        have z := I.pin q (List.mem_append_right _ hq)
        exact ⟨k _ _ z.1, z.2⟩⟩
end
/-- the generator at a: for any consumer -/
def RdyX (X : Cx) (pins : List (Addr × Obj)) (σ : L2.St) (n : Nat) (vals : Nat → V) (QF : Hp → Prop) (a : Addr) (s5 : Shared) : Prop :=
  ∃ (St : List Addr → Nat → Shared → Prop) (Fin : List Addr → Shared → Prop), (∀ Sp, (∀ b ∈ Sp, s5.heap.objs.size ≤ b) → WG X.prog X.w X.A.in1 a n vals Sp (St Sp) (Fin Sp)) ∧
    (∀ Sp h' tk, (∀ b ∈ Sp, s5.heap.objs.size ≤ b) → (∀ b o, s5.heap.get? b = some o → h'.get? b = some o) → (∀ b ∈ Sp, ∃ o, h'.get? b = some o ∧ ∀ v, o.data ≠ .cell v) → St Sp 0 { s5 with heap := h', toks := tk }) ∧ ∀ Sp s', Fin Sp s' → ∃ H', Inv X pins σ H' s' ∧ QF H'
/-- (.. for t in e), handed to a consumer that makes r of what comes -/
def tGX (P : Addr) (ok : Nat → (Nat → V) → V → Prop) (wi : TI) (g : TG) (te : TE) (vs : List Nat) : TE := fun σ H Q => wi σ H fun J H1 => Tab H1 P ∧ ∃ (n : Nat) (vals : Nat → V) (r : V) (W : Nat → Hp → Prop), ok n vals r ∧ W 0 H1 ∧
  (∀ i H', i < n → W i H' → J.go i H' ∧ ∀ x H2, J.yld i H' x H2 → g x (wipe σ vs) H2 fun σ2 H3 => wipe σ2 vs = wipe σ vs ∧ te σ2 H3 fun y H4 => y = vals i ∧ W (i + 1) H4) ∧ (∀ H', W n H' → J.stop n H') ∧ ∀ i H', i ≤ n → W i H' → Q r H'
structure GenX (env : Env) (scope : Scope) : Prop where
  co : scope.isCoroutine = false
  cell : ∀ y ∈ scope.names, y.2 ≠ .cell
  dot : scope.names.lookup (".0" : Str) = some NameKind.local
theorem gen_makeX {c P : Addr} {elt tg iter : Expr} {scope : Scope} {own : List (Str × Nat)} {gpos : Pos} {wi : TI} {g : TG} {te : TE} {k : Nat} {Q : VK} {Q' : Value → Shared → Prop} {okc : Nat → (Nat → V) → V → Prop} (hr : Room (k + 1) X.A) (hN : X.N.Nodup) (TB : LamX.TabB X.base X.mg c P) (hcode : X.env.code = .ref c) (S : GenX X.env scope) (ok : BlkOk X.N X.env.scope scope own)
    (hi : PI X tg iter wi) (hs : ∀ v, genFold iter X.env v = pure v) (hg : ∀ (A' : Around) (s : Shared) (H : Hp) (C : Addr) (code : Value) (fp : List Addr), Room k A' → PG (gnb X A' s H (gnE X scope C code) fp) tg g) (he : ∀ (A' : Around) (s : Shared) (H : Hp) (C : Addr) (code : Value) (fp : List Addr), Room k A' → PE (gnb X A' s H (gnE X scope C code) fp) elt te)
    (I : Inv X pins σ H s) (h : tGX P okc wi g te (own.map (·.2)) σ H Q)
    (hQ : ∀ n vals r (W : Nat → Hp → Prop) a s5, okc n vals r → (∀ i H', i ≤ n → W i H' → Q r H') → RdyX X pins σ n vals (fun H' => ∃ i, i ≤ n ∧ W i H') a s5 → Q' (.ref a) s5) :
    wpAny (model X.prog X.w) X.A (eval (.GeneratorExp elt [⟨tg, iter, [], 0⟩] scope gpos) X.env) Q' X.xe s := by
  have hfree : ∀ y ∈ scope.names, y.2 = .free → ∃ c, X.env.cells.lookup y.1 = some c := fun y hy e => (ok.free y hy e).elim (fun k => I.ok.has _ (.inl k)) fun k => I.ok.has _ (.inr k)
  refine wpAny_GeneratorExp_make S.co (closure_ok hfree) S.cell S.dot ok.kind (by have := hr.dp; omega) (thn (hi.run pins s σ H _ I h) fun xv s1 h1 => thn h1 fun itv s2 h2 => ?_) hs
  obtain ⟨it, fp, tn, J, H2, rfl, I2, T, st2, f2, hT, n, vals, r, W, hok, w0, turn, stop, fin⟩ := h2
  refine ⟨I2.nolimit, ?_⟩
  obtain ⟨ps, hPs, ht⟩ := hT.of_ok I2.hok
  have cd : PySem.W.CodeHd s2.heap c P := TB.code.keeps fun b u e => I2.bk b u e
  have fpP : ∀ b ∈ fp, b ≠ P := fun b hb z => by
    have q := (f2 b hb).1
    rw [z, hT] at q
    cases q
  have go : ∀ (code : Value) (h3 : Heap) (tk : Nat) (ps' : Array Value), (∀ b o, b ≠ P → s2.heap.get? b = some o → h3.get? b = some o) → s2.heap.objs.size ≤ h3.objs.size → h3.get? P = some { cls := .none, data := .fields ps' } → TriplesOk ps'.toList →
      wpAny (model X.prog X.w) X.A (builtinsFor X.env.globals X.env.builtins) (fun bi s₄ => ∀ h', h'.Ns s₄.heap.objs.size (fun y => if y = ".0" then some (.ref it) else none) → Heap.SameBut s₄.heap.objs.size (s₄.heap.push { cls := .type "frame", data := .dict #[] }) h' →
          Q' (.ref h'.objs.size) { s₄ with
            gens := s₄.gens.push (.fresh (.compStart (.GeneratorExp elt [⟨tg, iter, [], 0⟩] scope gpos) 0 (.ref it) .none (genEnv scope (cloFrom X.env.cells scope.names []) s₄.heap.objs.size code bi X.env))),
            toks := s₄.toks + 1 + 1 + 1,
            heap := h'.push { cls := .type "generator", data := .fields #[.int s₄.gens.size 0, .str "<genexpr>" (s₄.toks + 1), .str (X.env.qual ++ "<genexpr>") (s₄.toks + 1 + 1)] } }) X.xe { s2 with heap := h3, toks := tk } := by
    intro code h3 tk ps' hx hsz hP3 ht3
    have I3 : Inv X pins σ H2 { s2 with heap := h3, toks := tk } := inv_grown I2 hT hx ⟨ps', hP3, ht3⟩ rfl I2.bare
    obtain ⟨bm, ob, e1, e2, e3, e4, e5, e6, e7, e8⟩ := TB.bm
    refine wpAny_builtinsFor (m := X.mg) (by rw [I3.ok.glob]; exact I3.mod.glob.keeps I3.bk) e1 e2 (hx _ _ e4 (I2.bk _ _ e5)) e6 e7 e8 ?_
    generalize hs3 : ({ s2 with heap := h3, toks := tk } : Shared) = s3 at I3 ⊢
    have hh3 : s3.heap = h3 := by rw [← hs3]
    intro h' hn' hs'
    have hsz' : h'.objs.size = s3.heap.objs.size + 1 := by rw [hs'.1, Heap.size_push]
    have keep' : ∀ b o, s3.heap.get? b = some o → h'.get? b = some o := fun b o e => hs'.extBut b o (Nat.ne_of_lt (Heap.lt_size e)) (Heap.get?_push_of_some _ e)
    generalize hoa : ({ cls := .type "generator", data := .fields #[.int s3.gens.size 0, .str "<genexpr>" (s3.toks + 1), .str (X.env.qual ++ "<genexpr>") (s3.toks + 1 + 1)] } : Obj) = oa
    have keep5 : ∀ b o, s3.heap.get? b = some o → (h'.push oa).get? b = some o := fun b o e => Heap.get?_push_of_some _ (keep' b o e)
    have hG : ∀ h : Heap, h.get? h'.objs.size = some oa → h.IsGen h'.objs.size s3.gens.size := fun h e => ⟨oa, _, _, e, by rw [← hoa], by rw [← hoa], by rw [← hoa]⟩
    have goa : (h'.push oa).get? h'.objs.size = some oa := Heap.get?_push_size _ (by rw [← hoa]; rfl)
    have noC : ∀ v, oa.data ≠ .cell v := fun v => by rw [← hoa]; intro z; cases z
    have nstk : ∀ b, s3.heap.objs.size ≤ b → b ∉ frs X.stack := fun b hb z => by
      rcases List.mem_cons.mp (I3.stkSub b z) with z | z
      · have := I3.lt
        rw [← z] at this
        exact Nat.lt_irrefl _ (Nat.lt_of_lt_of_le this hb)
      · exact I3.nofs hb z
    have f3 : ∀ b ∈ fp, FpOk X pins H2 b ∧ b < s3.heap.objs.size := fun b hb => by
      obtain ⟨o, e, _⟩ := T.obj _ _ st2 b hb
      exact ⟨f2 b hb, by rw [hh3]; exact Heap.lt_size (hx b o (fpP b hb) e)⟩
    have hA1 : (X.A.in4.in1.over (.compLoop (.GeneratorExp elt [⟨tg, iter, [], 0⟩] scope gpos) 0 (.ref it) .none (gnE X scope s3.heap.objs.size code)) []).handled = none := hr.hd
    have hfr1 : (X.A.in4.in1.over (.compLoop (.GeneratorExp elt [⟨tg, iter, [], 0⟩] scope gpos) 0 (.ref it) .none (gnE X scope s3.heap.objs.size code)) []).frames = some (gnE X scope s3.heap.objs.size code :: X.stack) := by
      show pushEnvs [_] (pushEnvs [] X.A.frames) = _
      rw [I3.ok.frames]
      rfl
    have hrm : Room k (X.A.in4.in1.over (.compLoop (.GeneratorExp elt [⟨tg, iter, [], 0⟩] scope gpos) 0 (.ref it) .none (gnE X scope s3.heap.objs.size code)) []) :=
      ⟨hr.hd, by have := hr.dp; show X.A.depth + 0 + 1 + 3 * k + 5 < _; omega, by have := hr.un; show X.A.units + 1 + 1 + 1 + 1 + 1 + 0 + 3 + 16 * k + 200 < _; omega⟩
    generalize hA' : X.A.in4.in1.over (.compLoop (.GeneratorExp elt [⟨tg, iter, [], 0⟩] scope gpos) 0 (.ref it) .none (gnE X scope s3.heap.objs.size code)) [] = A' at hA1 hfr1 hrm
    have pg := hg A' s3 H2 s3.heap.objs.size code fp hrm
    have pe := he A' s3 H2 s3.heap.objs.size code fp hrm
    have turns := fun (Sp : List Addr) => seg_turns (A₁ := X.A.in4.in1) (Y := gnb X A' s3 H2 (gnE X scope s3.heap.objs.size code) fp) (pos := gpos) (iter := iter) (scope := scope) (it := it) (a := h'.objs.size) (oa := oa) (Sp := Sp) (σ := σ) (vs := own.map (·.2)) hA'.symm rfl rfl rfl S.co T pg pe turn stop
    have begin_ : ∀ {h'' : Heap} {g' : Array GenState} {t' : Nat}, (∀ b o, (h'.push oa).get? b = some o → h''.get? b = some o) → AllBare g' → Inv (gnb X A' s3 H2 (gnE X scope s3.heap.objs.size code) fp) [] (wipe σ (own.map (·.2))) H2 { s3 with heap := h'', gens := g', toks := t' } := fun {h'' g' t'} k1 k2 =>
      gen_begin I3 ok S.cell hN f3 hA1 hfr1 (fun b o e => k1 b o (keep5 b o e)) (hn'.keeps fun b o e => k1 b o (Heap.get?_push_of_some _ e)) k2
    refine hQ n vals r W _ _ hok fin ⟨fun Sp => GSt X.prog X.w X.A.in4 s3.gens.size n vals Sp (Btw (gnb X A' s3 H2 (gnE X scope s3.heap.objs.size code) fp) h'.objs.size oa (wipe σ (own.map (·.2))) fp tn W Sp) (Gone (gnb X A' s3 H2 (gnE X scope s3.heap.objs.size code) fp) h'.objs.size oa (wipe σ (own.map (·.2))) W n Sp),
      fun Sp => Gone (gnb X A' s3 H2 (gnE X scope s3.heap.objs.size code) fp) h'.objs.size oa (wipe σ (own.map (·.2))) W n Sp, fun Sp hSp => ?_, fun Sp h'' tk' hSp hk hn => ?_, fun Sp s' hF => ?_⟩
    · have hSp' : ∀ b ∈ Sp, s3.heap.objs.size ≤ b ∧ b ≠ h'.objs.size := fun b hb => by
        have := hSp b hb
        rw [Heap.size_push] at this
        have h1 : s3.heap.objs.size ≤ h'.objs.size := by rw [hsz']; exact Nat.le_succ _
        exact ⟨Nat.le_trans h1 (Nat.le_of_succ_le this), fun e => by rw [e] at this; exact Nat.lt_irrefl _ this⟩
      have W4 : WG X.prog X.w X.A.in4 h'.objs.size n vals Sp (GSt X.prog X.w X.A.in4 s3.gens.size n vals Sp (Btw (gnb X A' s3 H2 (gnE X scope s3.heap.objs.size code) fp) h'.objs.size oa (wipe σ (own.map (·.2))) fp tn W Sp) (Gone (gnb X A' s3 H2 (gnE X scope s3.heap.objs.size code) fp) h'.objs.size oa (wipe σ (own.map (·.2))) W n Sp)) (Gone (gnb X A' s3 H2 (gnE X scope s3.heap.objs.size code) fp) h'.objs.size oa (wipe σ (own.map (·.2))) W n Sp) :=
        ⟨fun i s Q E hi st hQ => gst_item hr.hd (by have := hr.dp; show X.A.depth < _; omega) (jok hG) hi st hQ, fun s Q E st hQ => gst_done hr.hd (by have := hr.dp; show X.A.depth < _; omega) (jok hG) st hQ, fun i s Q E st hQ => wpAny_pyIter_gen ((jok (n := n) hG).gen _ _ st.1) hQ,
          fun i s hi st => let ⟨⟨H', ps, hps, I, _, _, w⟩, _⟩ := st; ⟨H', ps, i, hi, hps, I, w⟩, fun i s h'' tk' st k1 k2 => ⟨btw_upd T rfl hSp' st.1 k1 k2, st.2⟩, fun s h'' tk' st k1 k2 => gone_upd rfl hSp' st k1 k2⟩
      exact (W4.of_in1).of_in1.of_in1
    · have hlt : ∀ b ∈ Sp, s3.heap.objs.size ≤ b ∧ b ≠ h'.objs.size := fun b hb => by
        have := hSp b hb
        rw [Heap.size_push] at this
        have h1 : s3.heap.objs.size ≤ h'.objs.size := by rw [hsz']; exact Nat.le_succ _
        exact ⟨Nat.le_trans h1 (Nat.le_of_succ_le this), fun e => by rw [e] at this; exact Nat.lt_irrefl _ this⟩
      have ale : s3.heap.objs.size ≤ h'.objs.size := by rw [hsz']; exact Nat.le_succ _
      have I5 := begin_ (t' := tk') hk (I3.bare.push (g := .fresh (.compStart (.GeneratorExp elt [⟨tg, iter, [], 0⟩] scope gpos) 0 (.ref it) .none (gnE X scope s3.heap.objs.size code))) rfl)
      have J0 : Btw (gnb X A' s3 H2 (gnE X scope s3.heap.objs.size code) fp) h'.objs.size oa (wipe σ (own.map (·.2))) fp tn W Sp 0 { s3 with heap := h'', gens := s3.gens.push (.fresh (.compStart (.GeneratorExp elt [⟨tg, iter, [], 0⟩] scope gpos) 0 (.ref it) .none (gnE X scope s3.heap.objs.size code))), toks := tk' } := by
        refine ⟨H2, _, pins_map hn, I5.pins_of fun q hq => ?_, T.keep _ _ _ st2 fun b hb o e => hk _ _ (keep5 _ _ (by rw [hh3]; exact hx b o (fpP b hb) e)), fun b hb => ⟨(f2 b hb).1, Nat.ne_of_lt (f3 b hb).2, fun z => ?_, .inl hb, fun y c' e => (f2 b hb).2.2.2.2.1 y c' (clo_back hfree e).2, fun q hq e => ?_⟩, w0⟩
        · rcases List.mem_cons.mp hq with rfl | hq
          · exact ⟨hk _ _ goa, I3.hok.fresh ale, fun z => by
              have : h'.objs.size = s3.heap.objs.size := z
              rw [hsz'] at this
              exact Nat.succ_ne_self _ this, nstk _ ale, noC⟩
          · obtain ⟨hb, e⟩ := of_pinsAt hq
            obtain ⟨o, h1, h2⟩ := hn _ hb
            rw [e] at h1
            cases h1
            refine ⟨e, I3.hok.fresh (hlt _ hb).1, fun z => ?_, nstk _ (hlt _ hb).1, h2⟩
            have z : q.1 = s3.heap.objs.size := z
            have := hSp _ hb
            rw [Heap.size_push, hsz', z] at this
            exact Nat.lt_irrefl _ (Nat.lt_of_succ_lt this)
        · rcases List.mem_cons.mp (I3.stkSub b z) with z | z
          · exact (f2 b hb).2.1 z
          · exact (f2 b hb).2.2.1 z
        · have lt := (f3 b hb).2
          rcases List.mem_cons.mp (show q ∈ _ :: pinsAt Sp h'' from hq) with rfl | hq
          · have e : h'.objs.size = b := e
            rw [← e] at lt
            exact Nat.lt_irrefl _ (Nat.lt_of_lt_of_le lt ale)
          · have := (hlt _ (of_pinsAt hq).1).1
            rw [e] at this
            exact Nat.lt_irrefl _ (Nat.lt_of_lt_of_le lt this)
      refine ⟨J0, _, Array.getElem?_push_size .., fun s'' hJ => ⟨rfl, ?_⟩⟩
      have loop := turns Sp n 0 s'' s'' (Nat.sub_zero _) (Nat.zero_le _) (fun b hb => by
        obtain ⟨H3, qs, hqs, I6, _⟩ := hJ
        rw [← hqs] at hb
        obtain ⟨z, hz, rfl⟩ := List.mem_map.mp hb
        have y := (I6.pin z (List.mem_append_right _ (List.mem_cons_of_mem _ hz))).1
        exact ⟨z.2, y, y⟩) hJ
      show Seg _ _ _ _ _ s'' _ ((compStart (.GeneratorExp elt [⟨tg, iter, [], 0⟩] scope gpos) 0 (.ref it) .none (gnE X scope s3.heap.objs.size code)).onRaise (leaving (gnE X scope s3.heap.objs.size code))) [] s''
      unfold compStart; rw [Sem.onRaise_eq_wrap]
      refine seg_bind_wrap (m := ask) (wpAny_askSetting ?_)
      obtain ⟨_, _, _, I6, st6, _⟩ := id hJ
      split
      · exact seg_again rfl loop
      · exact seg_bind_wrap (wpAny_rule (seg_bind_wrap (wpAny_standAt (seg_bind_wrap (T.self _ 0 s'' _ _ st6 (seg_again rfl loop))))))
    · obtain ⟨H', qs, i, hi, hqs, I6, w⟩ := hF
      exact ⟨H', I3.call' (ch := fp) I6.os I6.base I6.hok I6.bare fun b hb => ⟨(f2 b hb).2.2.2.1, (f2 b hb).2.1, (f2 b hb).2.2.2.2.1, (f2 b hb).2.2.2.2.2⟩, i, hi, w⟩
  cases hf : codeAmong gpos ps.toList with
  | some cv => exact wpAny_genexprCode_hit hcode (cd.code hPs ht) hf (go cv s2.heap s2.toks ps (fun _ _ _ e => e) (Nat.le_refl _) hPs ht)
  | none =>
    refine wpAny_genexprCodeX hcode (cd.code hPs ht) (cd.tab hPs) hf fun c' h3 tk hx hge hlt hco' _ htab' _ => ?_
    obtain ⟨_, _, _, _, _, _, _, _, _, _, _, _, _, _, _, _, _, _, _, htr, _⟩ := hco'
    exact go _ h3 tk _ hx (Nat.le_trans hge (Nat.le_of_lt hlt)) htab'.2 htr
end
end LH

set_option Elab.async false
set_option linter.all false
set_option maxRecDepth 100000
set_option maxHeartbeats 4000000
namespace LH
open PySem PySem.Spec PyProof.Rows L2 Evl LT LG
section
variable {prog : Program} {w : World} {A : Around} {E : Value → Shared → Prop} {R : Result → Shared → Prop} {s : Shared} {a S : Addr} {n : Nat} {vals : Nat → V} {St : Nat → Shared → Prop} {Fin : Shared → Prop} {val : Nat → Int}
abbrev accO (us : Array Value) (c : Nat) : Obj := { cls := .type "list", dict := none, data := .seq us c, slots := #[] }
theorem same_at {s s' : Shared} {o : Obj} (h : Same [S] s s') (e : s.heap.get? S = some o) : s'.heap.get? S = some o := by
  obtain ⟨o', h1, h2⟩ := h S (List.mem_singleton.mpr rfl)
  rw [e] at h1
  cases h1
  exact h2
theorem upd_keeps {h : Heap} {f : Obj → Obj} : ∀ b o, b ∉ [S] → h.get? b = some o → (h.update S f).get? b = some o := fun b o hb e =>
  (Heap.get?_update_other _ _ fun z : S = b => hb (List.mem_singleton.mpr z.symm)).trans e
theorem sum_turns (W : WG prog w A.in1 a n vals [S] St Fin) (hv : ∀ i, vals i = .int (val i)) (hfit : ∀ j, j < n → InLong (val j) ∧ InLong (preSum val (j + 1))) : ∀ (k i : Nat) (s : Shared) (tA : Tok) (c : Nat), n - i = k → i ≤ n → St i s → s.heap.get? S = some (accO #[.int (preSum val i) tA] c) →
    (∀ s' t', Fin s' → R (.ok (.ret (.int (preSum val n) t'))) s') → codeAny (model prog w) A (.builtin "sum.loop" ⟨[.ref a, .ref S, rawInt 0, rawInt 0], []⟩) R s := by
  intro k
  induction k with
  | zero =>
    intro i s tA c hk hi st hS hR
    obtain rfl : i = n := by omega
    refine codeAny_builtin F.entry_sum_loop (by
      rw [Around.under_plainId F.plain_sum_loop _]
      show wpAny _ A.in1 (seqItems? (.ref S) >>= _) _ _ s
      refine wpAny_bind (wpAny_seqItems hS rfl (show wpAny _ A.in1 (tryCatch (pyNext (.ref a)) _ >>= _) _ _ s from ?_))
      exact wpAny_bind (wpAny_tryCatch (W.done s _ _ st fun s' hF _ => wpAny_pure (hR s' tA hF))))
  | succ k ih =>
    intro i s tA c hk hi st hS hR
    have hlt : i < n := by omega
    refine codeAny_builtin F.entry_sum_loop (by
      rw [Around.under_plainId F.plain_sum_loop _]
      show wpAny _ A.in1 (seqItems? (.ref S) >>= _) _ _ s
      refine wpAny_bind (wpAny_seqItems hS rfl (show wpAny _ A.in1 (tryCatch (pyNext (.ref a)) _ >>= _) _ _ s from ?_))
      refine wpAny_bind (wpAny_tryCatch (W.item i s _ _ hlt st fun v s' r st' sm => ?_))
      rw [hv i] at r
      obtain ⟨t, rfl⟩ := r
      have hS' := same_at sm hS
      obtain ⟨⟨f1, f2⟩, f3, f4⟩ := hfit i hlt
      have hc : ((decide (-(2 ^ 63) ≤ val i) && decide (val i < 2 ^ 63)) && (decide (-(2 ^ 63) ≤ preSum val i + val i) && decide (preSum val i + val i < 2 ^ 63))) = true := by
        simp only [preSum] at f3 f4
        simp only [Bool.and_eq_true, decide_eq_true_eq]
        exact ⟨⟨f1, f2⟩, f3, f4⟩
      show wpAny _ A.in1 (if (_ : Bool) = true then (mkInt (preSum val i + val i) >>= _) else _) _ _ _
      split
      · refine wpAny_bind (wpAny_mkInt (show wpAny _ A.in1 (updateSeq S (fun _ => #[.int (preSum val i + val i) s'.toks]) >>= _) _ _ _ from wpAny_bind ?_))
        refine wpAny_updateSeq hS' rfl (wpAny_pure ⟨plainId_quiet F.plain_sum_loop _, ih (i + 1) _ s'.toks _ (by omega) hlt (W.upd _ s' _ _ st' upd_keeps fun b hb => ?_) (Heap.get?_update_self _ hS' rfl) hR⟩)
        rw [List.mem_singleton.mp hb]
        exact ⟨_, Heap.get?_update_self _ hS' rfl, fun v z => nomatch z⟩
      · rename_i hneg
        exact absurd hc hneg)
/-- the greatest so far -/
def topI (val : Nat → Int) : Nat → Int
  | 0 => val 0
  | k + 1 => if val (k + 1) > topI val k then val (k + 1) else topI val k
theorem max_turns (W : WG prog w A.in1 a n vals [S] St Fin) (hv : ∀ i, vals i = .int (val i)) : ∀ (k j : Nat) (s : Shared) (t : Tok) (c : Nat), n - (j + 1) = k → j + 1 ≤ n → St (j + 1) s → s.heap.get? S = some (accO #[.int (topI val j) t, .int (topI val j) t] c) →
    (∀ s' t', Fin s' → R (.ok (.ret (.int (topI val (n - 1)) t'))) s') → codeAny (model prog w) A (.builtin "max.loop" ⟨[.ref a, .none, .ref S], []⟩) R s := by
  have hname : (toString "max" ++ toString ".loop" : String) = "max.loop" := by decide
  intro k
  induction k with
  | zero =>
    intro j s t c hk hj st hS hR
    have hin : j + 1 = n := by omega
    refine codeAny_builtin F.entry_max_loop (by
      rw [Around.under_plainId F.plain_max_loop _]
      show wpAny _ A.in1 (seqItems? (.ref S) >>= _) _ _ s
      refine wpAny_bind (wpAny_seqItems hS rfl (show wpAny _ A.in1 (tryCatch (pyNext (.ref a)) _ >>= _) _ _ s from ?_))
      refine wpAny_bind (wpAny_tryCatch (W.done s _ _ (hin ▸ st) fun s' hF sm => ?_))
      have hS' := same_at sm hS
      show wpAny _ A.in1 (updateSeq S (fun _ => #[]) >>= _) _ _ _
      refine wpAny_bind (wpAny_updateSeq hS' rfl (wpAny_bind (wpAny_letGo (wpAny_pure ?_))))
      have q := hR { s' with heap := s'.heap.update S (Obj.mapSeq fun _ => #[]) } t (W.finU s' _ s'.toks hF upd_keeps fun b hb => by
        rw [List.mem_singleton.mp hb]
        exact ⟨_, Heap.get?_update_self _ hS' rfl, fun v z => nomatch z⟩)
      rw [← hin] at q
      exact q)
  | succ k ih =>
    intro j s t c hk hj st hS hR
    have hlt : j + 1 < n := by omega
    refine codeAny_builtin F.entry_max_loop (by
      rw [Around.under_plainId F.plain_max_loop _]
      show wpAny _ A.in1 (seqItems? (.ref S) >>= _) _ _ s
      refine wpAny_bind (wpAny_seqItems hS rfl (show wpAny _ A.in1 (tryCatch (pyNext (.ref a)) _ >>= _) _ _ s from ?_))
      refine wpAny_bind (wpAny_tryCatch (W.item (j + 1) s _ _ hlt st fun v s' r st' sm => ?_))
      rw [hv (j + 1)] at r
      obtain ⟨t1, rfl⟩ := r
      have hS' := same_at sm hS
      show wpAny _ A.in1 (tryCatch (holding [Value.int (val (j + 1)) t1, Value.int (val (j + 1)) t1] (richCompare .Gt (Value.int (val (j + 1)) t1) (Value.int (topI val j) t) >>= _)) _ >>= _) _ _ _
      refine wpAny_bind (wpAny_tryCatch (wpAny_holding (wpAny_bind (gt_int (wpAny_bind (wpAny_holding (wpAny_truthy_bool (wpAny_bind (wpAny_letGo (wpAny_pure ?_))))))))))
      by_cases hb : val (j + 1) > topI val j
      · rw [decide_eq_true hb]
        simp only [if_true]
        refine wpAny_bind (wpAny_updateSeq hS' rfl (wpAny_bind (wpAny_letGo ?_)))
        rw [hname]
        refine wpAny_pure ⟨plainId_quiet F.plain_max_loop _, ih (j + 1) _ t1 _ (by omega) hlt (W.upd _ s' _ s'.toks st' upd_keeps fun b hb => ?_) (by
          have e : topI val (j + 1) = val (j + 1) := if_pos hb
          rw [e]
          exact Heap.get?_update_self _ hS' rfl) hR⟩
        rw [List.mem_singleton.mp hb]
        exact ⟨_, Heap.get?_update_self _ hS' rfl, fun v z => nomatch z⟩
      · rw [decide_eq_false hb]
        simp only [Bool.false_eq_true, if_false]
        refine wpAny_bind (wpAny_letGo ?_)
        rw [hname]
        refine wpAny_pure ⟨plainId_quiet F.plain_max_loop _, ih (j + 1) _ t c (by omega) hlt st' (by
          have e : topI val (j + 1) = topI val j := if_neg hb
          rw [e]
          exact hS') hR⟩)
end
end LH
namespace LH
open PySem PySem.Spec PyProof.Rows L2 Evl LT LG
section
variable {prog : Program} {w : World} {A : Around} {E : Value → Shared → Prop} {s : Shared} {a : Addr} {n : Nat} {vals : Nat → V} {val : Nat → Int} {Q : Value → Shared → Prop}
theorem call_sumG (hW : ∀ S, s.heap.objs.size ≤ S → ∃ (St : Nat → Shared → Prop) (Fin : Shared → Prop), WG prog w A.in1 a n vals [S] St Fin ∧ (∀ h' tk, (∀ b o, s.heap.get? b = some o → h'.get? b = some o) → (∃ o, h'.get? S = some o ∧ ∀ v, o.data ≠ .cell v) → St 0 { s with heap := h', toks := tk }) ∧ ∀ s' t', Fin s' → Q (.int (preSum val n) t') s')
    (hself : wpAny (model prog w) A.in1 (pyIter (.ref a)) (fun u s' => u = .ref a ∧ s' = s) E s) (hv : ∀ i, vals i = .int (val i)) (hfit : ∀ j, j < n → InLong (val j) ∧ InLong (preSum val (j + 1))) : wpAny (model prog w) A (call (.builtin "sum") [.ref a]) Q E s := by
  refine call_function_tree F.kind_sum F.plain_sum F.entry_sum (F.args_sum1 _) (by
    unfold Builtin.«sum»
    simp only [List.length_cons, List.length_nil]; rw [if_neg (by decide)]
    refine wpAny_bind (wpAny_of_eq (show Builtin.Builtins.bindParams "sum" ["start"] 0 { } = pure [none] from rfl) (wpAny_bind (wpAny_mono hself (fun u s' h => ?_) fun _ _ e => e)))
    obtain ⟨rfl, rfl⟩ := h
    refine wpAny_bind (wpAny_mkInt (wpAny_bind (wpAny_pure ?_)))
    simp only [List.forIn_cons, List.forIn_nil]
    refine wpAny_bind (wpAny_bind (wpAny_bind (wpAny_isInstance (T := "int") (b := false) (typeIs_int _ _ _) PySem.sub_int_str (by
      simp only [Bool.false_eq_true, if_false]
      refine wpAny_pure (wpAny_bind (wpAny_bind (wpAny_isInstance (T := "int") (b := false) (typeIs_int _ _ _) PySem.sub_int_bytes (by
        simp only [Bool.false_eq_true, if_false]
        refine wpAny_pure (wpAny_bind (wpAny_bind (wpAny_isInstance (T := "int") (b := false) (typeIs_int _ _ _) PySem.sub_int_bytearray (by
          simp only [Bool.false_eq_true, if_false]
          refine wpAny_pure (wpAny_pure (wpAny_bind (wpAny_newObj_type ?_)))
          obtain ⟨St, Fin, W, h0, hQ⟩ := hW s'.heap.objs.size (Nat.le_refl _)
          exact wpAny_pure ⟨plainId_quiet F.plain_sum_loop _, sum_turns W hv hfit n 0 _ s'.toks 0 rfl (Nat.zero_le _) (h0 _ _ (fun b o e => Heap.get?_push_of_some _ e) ⟨_, Heap.get?_push_size _ rfl, fun v z => nomatch z⟩) (Heap.get?_push_size _ rfl) hQ⟩)))))))))))))
theorem call_maxG (hW : ∀ S, s.heap.objs.size ≤ S → ∃ (St : Nat → Shared → Prop) (Fin : Shared → Prop), WG prog w A.in1 a n vals [S] St Fin ∧ (∀ h' tk, (∀ b o, s.heap.get? b = some o → h'.get? b = some o) → (∃ o, h'.get? S = some o ∧ ∀ v, o.data ≠ .cell v) → St 0 { s with heap := h', toks := tk }) ∧ ∀ s' t', Fin s' → Q (.int (topI val (n - 1)) t') s')
    (hself : wpAny (model prog w) A.in1 (pyIter (.ref a)) (fun u s' => u = .ref a ∧ s' = s) E s) (hv : ∀ i, vals i = .int (val i)) (hn : 0 < n) : wpAny (model prog w) A (call (.builtin "max") [.ref a]) Q E s := by
  have hname : (toString "max" ++ toString ".loop" : String) = "max.loop" := by decide
  refine call_function_tree F.kind_max F.plain_max F.entry_max (F.args_max1 _) (by
    show wpAny _ A.in1 (Builtin.Builtins.bindParams "max" ["key", "default"] 0 ⟨[], []⟩ >>= _) _ _ s
    refine wpAny_bind (wpAny_of_eq (show Builtin.Builtins.bindParams "max" ["key", "default"] 0 ⟨[], []⟩ = pure [none, none] from rfl) (wpAny_bind (wpAny_pure (wpAny_bind (wpAny_mono hself (fun u s' h => ?_) fun _ _ e => e)))))
    obtain ⟨rfl, rfl⟩ := h
    refine wpAny_bind (wpAny_newObj_type ?_)
    obtain ⟨St, Fin, W, h0, hQ⟩ := hW s'.heap.objs.size (Nat.le_refl _)
    rw [hname]
    generalize hS : s'.heap.objs.size = S at W h0 ⊢
    have hS0 : (s'.heap.push { cls := .type "list", dict := none, data := .seq #[] 0 }).get? S = some (accO #[] 0) := by rw [← hS]; exact Heap.get?_push_size _ rfl
    have st0 := h0 (s'.heap.push { cls := .type "list", dict := none, data := .seq #[] 0 }) s'.toks (fun b o e => Heap.get?_push_of_some _ e) ⟨_, hS0, fun v z => nomatch z⟩
    refine wpAny_pure ⟨plainId_quiet F.plain_max_loop _, codeAny_builtin F.entry_max_loop (by
      rw [Around.under_plainId F.plain_max_loop _]
      show wpAny _ A.in1 (seqItems? (.ref S) >>= _) _ _ _
      refine wpAny_bind (wpAny_seqItems hS0 rfl (show wpAny _ A.in1 (tryCatch (pyNext (.ref a)) _ >>= _) _ _ _ from ?_))
      refine wpAny_bind (wpAny_tryCatch (W.item 0 _ _ _ hn st0 fun v s2 r st' sm => ?_))
      rw [hv 0] at r
      obtain ⟨t1, rfl⟩ := r
      have hS' := same_at sm hS0
      show wpAny _ A.in1 (updateSeq S (fun _ => #[Value.int (val 0) t1, Value.int (val 0) t1]) >>= _) _ _ _
      refine wpAny_bind (wpAny_updateSeq hS' rfl ?_)
      rw [hname]
      refine wpAny_pure ⟨plainId_quiet F.plain_max_loop _, max_turns W hv _ 0 _ t1 _ rfl hn (W.upd _ s2 _ s2.toks st' upd_keeps fun b hb => ?_) (Heap.get?_update_self _ hS' rfl) hQ⟩
      rw [List.mem_singleton.mp hb]
      exact ⟨_, Heap.get?_update_self _ hS' rfl, fun v z => nomatch z⟩)⟩)
end
/-! ### the rules -/
def okAll (n : Nat) (vals : Nat → V) (r : V) : Prop := ∃ f : Nat → Bool, vals = (fun i => .bl (f i)) ∧ r = .bl (allF n f)
def okAny (n : Nat) (vals : Nat → V) (r : V) : Prop := ∃ f : Nat → Bool, vals = (fun i => .bl (f i)) ∧ r = .bl (anyF n f)
def okSum (n : Nat) (vals : Nat → V) (r : V) : Prop := ∃ f : Nat → Int, vals = (fun i => .int (f i)) ∧ r = .int (preSum f n) ∧ ∀ j, j < n → InLong (f j) ∧ InLong (preSum f (j + 1))
def okMax (n : Nat) (vals : Nat → V) (r : V) : Prop := ∃ f : Nat → Int, vals = (fun i => .int (f i)) ∧ r = .int (topI f (n - 1)) ∧ 0 < n
section
variable {X : Cx} {c P : Addr} {elt tg iter : Expr} {scope : Scope} {own : List (Str × Nat)} {p pos gpos : Pos} {wi : TI} {g : TG} {te : TE} {k : Nat}
theorem pe_gen {bn : Str} {b : String} {okc : Nat → (Nat → V) → V → Prop} (hbb : bootBuiltins bn = some (.builtin b)) (hcall : ∀ (pins : List (Addr × Obj)) (σ : L2.St) (n : Nat) (vals : Nat → V) (r : V) (QF : Hp → Prop) (a : Addr) (s5 : Shared), okc n vals r → RdyX X pins σ n vals QF a s5 → wpAny (model X.prog X.w) X.A (call (.builtin b) [.ref a]) (fun u s' => RelV r u ∧ ∃ H', Inv X pins σ H' s' ∧ QF H') X.xe s5)
    (hr : Room (k + 1) X.A) (hN : X.N.Nodup) (hgl : Gl X bn) (hm : X.mg bn = none) (TB : LamX.TabB X.base X.mg c P) (hcode : X.env.code = .ref c) (S : GenX X.env scope) (ok : BlkOk X.N X.env.scope scope own)
    (hi : PI X tg iter wi) (hs : ∀ v, genFold iter X.env v = pure v) (hg : ∀ (A' : Around) (s : Shared) (H : Hp) (C : Addr) (code : Value) (fp : List Addr), Room k A' → PG (gnb X A' s H (gnE X scope C code) fp) tg g) (he : ∀ (A' : Around) (s : Shared) (H : Hp) (C : Addr) (code : Value) (fp : List Addr), Room k A' → PE (gnb X A' s H (gnE X scope C code) fp) elt te)
    (hst : starEach [.GeneratorExp elt [⟨tg, iter, [], 0⟩] scope gpos] X.env = (false, eval (.GeneratorExp elt [⟨tg, iter, [], 0⟩] scope gpos) X.env) :: starEach [] X.env := by rfl) (hnm : bn ≠ "__name__" := by decide) (hdb : (bn == ("__debug__" : Str)) = false := by decide) :
    PE X (.Call (.Name bn p) [.GeneratorExp elt [⟨tg, iter, [], 0⟩] scope gpos] [] pos) (tGX P okc wi g te (own.map (·.2))) := by
  refine ⟨fun pins s σ H Q I h => wpAny_Call_Name_kw (ld_blt I hgl hm hbb (PyProof.Rows.callWith_builtin1 ?_ hst (by rfl)) hnm hdb)⟩
  rw [hst]
  show wpAny _ _ (spliced ((false, eval (.GeneratorExp elt [⟨tg, iter, [], 0⟩] scope gpos) X.env) :: backTo pos (starEach [] X.env))) _ _ s
  refine Calls.spliced_cons (gen_makeX hr hN TB hcode S ok hi hs hg he I h fun n vals r W a s5 hok fin rdy => Calls.spliced_nil (wpAny_mono (hcall pins σ n vals r _ a s5 hok rdy) (fun u s' ⟨r1, H', I', i, hi, w⟩ => ⟨r, H', I', r1, fin i H' hi w⟩) fun _ _ e => e))
theorem rdy0 {pins : List (Addr × Obj)} {σ : L2.St} {n : Nat} {vals : Nat → V} {QF : Hp → Prop} {a : Addr} {s5 : Shared} (R : RdyX X pins σ n vals QF a s5) : ∃ St Fin, WG X.prog X.w X.A.in1 a n vals [] St Fin ∧ St 0 s5 ∧ ∀ s', Fin s' → ∃ H', Inv X pins σ H' s' ∧ QF H' := by
  obtain ⟨St, Fin, h1, h2, h3⟩ := R
  exact ⟨St [], Fin [], h1 [] (fun b hb => nomatch hb), h2 [] s5.heap s5.toks (fun b hb => nomatch hb) (fun _ _ e => e) (fun b hb => nomatch hb), h3 []⟩
theorem call_all_rdy {pins : List (Addr × Obj)} {σ : L2.St} {n : Nat} {vals : Nat → V} {r : V} {QF : Hp → Prop} {a : Addr} {s5 : Shared} (ok : okAll n vals r) (R : RdyX X pins σ n vals QF a s5) : wpAny (model X.prog X.w) X.A (call (.builtin "all") [.ref a]) (fun u s' => RelV r u ∧ ∃ H', Inv X pins σ H' s' ∧ QF H') X.xe s5 := by
  obtain ⟨f, rfl, rfl⟩ := ok
  obtain ⟨St, Fin, W, st, hF⟩ := rdy0 R
  exact call_allG W (fun _ => rfl) st fun s' h => ⟨rfl, hF s' h⟩
theorem call_any_rdy {pins : List (Addr × Obj)} {σ : L2.St} {n : Nat} {vals : Nat → V} {r : V} {QF : Hp → Prop} {a : Addr} {s5 : Shared} (ok : okAny n vals r) (R : RdyX X pins σ n vals QF a s5) : wpAny (model X.prog X.w) X.A (call (.builtin "any") [.ref a]) (fun u s' => RelV r u ∧ ∃ H', Inv X pins σ H' s' ∧ QF H') X.xe s5 := by
  obtain ⟨f, rfl, rfl⟩ := ok
  obtain ⟨St, Fin, W, st, hF⟩ := rdy0 R
  exact call_anyG W (fun _ => rfl) st fun s' h => ⟨rfl, hF s' h⟩
theorem rdy1 {pins : List (Addr × Obj)} {σ : L2.St} {n : Nat} {vals : Nat → V} {QF : Hp → Prop} {a : Addr} {s5 : Shared} (R : RdyX X pins σ n vals QF a s5) (S : Addr) (hS : s5.heap.objs.size ≤ S) : ∃ (St : Nat → Shared → Prop) (Fin : Shared → Prop), WG X.prog X.w X.A.in1 a n vals [S] St Fin ∧ (∀ h' tk, (∀ b o, s5.heap.get? b = some o → h'.get? b = some o) → (∃ o, h'.get? S = some o ∧ ∀ v, o.data ≠ .cell v) → St 0 { s5 with heap := h', toks := tk }) ∧
    ∀ s', Fin s' → ∃ H', Inv X pins σ H' s' ∧ QF H' := by
  obtain ⟨St, Fin, h1, h2, h3⟩ := R
  have hSp : ∀ b ∈ [S], s5.heap.objs.size ≤ b := fun b hb => by rw [List.mem_singleton.mp hb]; exact hS
  exact ⟨St [S], Fin [S], h1 [S] hSp, fun h' tk k e => h2 [S] h' tk hSp k fun b hb => by rw [List.mem_singleton.mp hb]; exact e, h3 [S]⟩
theorem self_rdy {E : Value → Shared → Prop} {pins : List (Addr × Obj)} {σ : L2.St} {n : Nat} {vals : Nat → V} {QF : Hp → Prop} {a : Addr} {s5 : Shared} (R : RdyX X pins σ n vals QF a s5) : wpAny (model X.prog X.w) X.A.in1 (pyIter (.ref a)) (fun u s' => u = .ref a ∧ s' = s5) E s5 := by
  obtain ⟨St, Fin, W, st, hF⟩ := rdy0 R
  exact W.self 0 _ _ _ st ⟨rfl, rfl⟩
theorem call_sum_rdy {pins : List (Addr × Obj)} {σ : L2.St} {n : Nat} {vals : Nat → V} {r : V} {QF : Hp → Prop} {a : Addr} {s5 : Shared} (ok : okSum n vals r) (R : RdyX X pins σ n vals QF a s5) : wpAny (model X.prog X.w) X.A (call (.builtin "sum") [.ref a]) (fun u s' => RelV r u ∧ ∃ H', Inv X pins σ H' s' ∧ QF H') X.xe s5 := by
  obtain ⟨f, rfl, rfl, hfit⟩ := ok
  exact call_sumG (fun S hS => let ⟨S1, F1, W, h0, hF⟩ := rdy1 R S hS; ⟨S1, F1, W, h0, fun s' t' h => ⟨⟨t', rfl⟩, hF s' h⟩⟩) (self_rdy R) (fun _ => rfl) hfit
theorem call_max_rdy {pins : List (Addr × Obj)} {σ : L2.St} {n : Nat} {vals : Nat → V} {r : V} {QF : Hp → Prop} {a : Addr} {s5 : Shared} (ok : okMax n vals r) (R : RdyX X pins σ n vals QF a s5) : wpAny (model X.prog X.w) X.A (call (.builtin "max") [.ref a]) (fun u s' => RelV r u ∧ ∃ H', Inv X pins σ H' s' ∧ QF H') X.xe s5 := by
  obtain ⟨f, rfl, rfl, hn⟩ := ok
  exact call_maxG (fun S hS => let ⟨S1, F1, W, h0, hF⟩ := rdy1 R S hS; ⟨S1, F1, W, h0, fun s' t' h => ⟨⟨t', rfl⟩, hF s' h⟩⟩) (self_rdy R) (fun _ => rfl) hn
end
end LH

set_option Elab.async false
set_option linter.all false
set_option maxRecDepth 100000
set_option maxHeartbeats 4000000
namespace LO
open PySem PySem.Spec PyProof.Rows L2 L2H Evl LT LG LS LX
/-! ### own objects: fields, methods, items changed -/
theorem get_list {X : Cx} : PGet X (rIxL X.K) := by
  intro pins s σ H x y v u Q I rx ry h
  obtain ⟨p, xs, i, z, rfl, rfl, hq, he, q⟩ := h
  cases rx
  obtain ⟨t, rfl⟩ := ry
  obtain ⟨its, r, pl, hz⟩ := I.list hq
  obtain ⟨j, h1, h2, h3, h4, h5⟩ := atI_get he
  obtain ⟨w, ew, rw'⟩ := r.get h2
  have hl := r.length
  have hn := line63
  have fin : EP X pins σ Q w s := ⟨z, H, I, rw', q⟩
  by_cases h0 : 0 ≤ i
  · have hj : i.toNat = j := by
      rw [seqIndex_of h0 h5] at h1
      exact Option.some.inj h1
    exact wpAny_getItem_list (Q := fun r s' => EP X pins σ Q r s') pl.isList h0 (by omega) (by rw [hj]; simpa using ew) fin
  · have hj : (i + (its.toArray.size : Int)).toNat = j := by
      rw [seqIndex_neg (by omega) h4] at h1
      rw [List.size_toArray, ← hl]
      exact Option.some.inj h1
    exact wpAny_getItem_list_neg (Q := fun r s' => EP X pins σ Q r s') pl.isList (by omega) (by rw [List.size_toArray] <;> omega) (by omega) (by rw [hj]; simpa using ew) fin
/-- o.m(e, ..), what is raised wished for at the slots -/
def tMethA (C : Addr) (m : Str) (sp : Sp) (E : L2.St → XK) (ta : TE) (t : TA) : TE := fun σ H Q => ta σ H fun x H1 => ∃ a dx fs, x = .ref a ∧ H1 a = some (.ins C dx fs) ∧ fs.lookup m = none ∧ t σ H1 fun vs H2 => sp (x :: vs) H2 Q (E σ)
section
variable {X : Cx} {CX : CXT} {k : Nat} {f C : Addr} {fd : FuncData} {ps : List Str} {sp : Sp} {E : L2.St → XK} {m : Str} {pos apos : Pos} {e o : Expr} {es : List Expr} {ta : TE} {t : TA}
theorem pe_methA {pl : Sem Bool} (he : PE X o ta) (c : Cls X.K C) (hm : Meth X.K C m f) (F : FnOk X.prog X.w X.K X.mg X.base CX k f fd ps sp) (hr : Room k X.A) (hb : Binds X.K fd ps []) (hx : ∀ σ, PassesAt CX X σ (E σ)) (ha : PA X (e :: es) t)
    (hst : starEach (e :: es) X.env = (false, eval e X.env) :: starEach es X.env := by rfl) (hpl : (backTo pos (starEach es X.env)).any (·.1) = false := by rfl)
    (ht : eval (.Call (.Attribute o m apos) (e :: es) [] pos) X.env = (do
      let ov ← eval o X.env
      standAt apos.atName
      let (f, first) ← holding [ov] (getMethod ov m pl)
      callWith pos f first (backTo pos (starEach (e :: es) X.env)) (backToKw pos (keywordEach [] X.env))) := by rfl) :
    PE X (.Call (.Attribute o m apos) (e :: es) [] pos) (tMethA C m sp E ta t) := by
  refine ⟨fun pins s σ H Q I h => ?_⟩
  refine PySem.W.methodCall_KW (pl := pl) (thn (he.run pins s σ H _ I h) fun u s1 ⟨x, H1, I1, rx, a, dx, fs, ex, ea, l, q⟩ => ?_) ht
  subst ex
  obtain rfl : u = Value.ref a := rx
  refine getmeth_ok I1 ea c hm l ?_
  refine PySem.W.callWith_K (first := [.ref a]) (h₀ := X.base) I.ok.mod.kin hm.kp (thn (ha.run pos pins s1 σ H1 _ I1 q) fun us s2 ⟨vs, H2, I2, r, q2⟩ => ⟨I2.kIn, ?_⟩) hst hpl
  exact run_fnS (us := .ref a :: us) (vs := .ref a :: vs) F hr hb (hx σ) I2 (.cons rfl r) q2
theorem pe_methA0 {pl : Sem Bool} (he : PE X o ta) (c : Cls X.K C) (hm : Meth X.K C m f) (F : FnOk X.prog X.w X.K X.mg X.base CX k f fd ps sp) (hr : Room k X.A) (hb : Binds X.K fd ps []) (hx : ∀ σ, PassesAt CX X σ (E σ))
    (ht : eval (.Call (.Attribute o m apos) [] [] pos) X.env = (do
      let ov ← eval o X.env
      standAt apos.atName
      let (f, first) ← holding [ov] (getMethod ov m pl)
      callWith pos f first (backTo pos (starEach [] X.env)) (backToKw pos (keywordEach [] X.env))) := by rfl) :
    PE X (.Call (.Attribute o m apos) [] [] pos) (tMethA C m sp E ta tNil) := by
  refine ⟨fun pins s σ H Q I h => ?_⟩
  refine PySem.W.methodCall_KW (pl := pl) (thn (he.run pins s σ H _ I h) fun u s1 ⟨x, H1, I1, rx, a, dx, fs, ex, ea, l, q⟩ => ?_) ht
  subst ex
  obtain rfl : u = Value.ref a := rx
  refine getmeth_ok I1 ea c hm l ?_
  exact PySem.W.callWith_K0 (first := [.ref a]) I1.kIn hm.kp (run_fnS (us := [.ref a]) (vs := [.ref a]) F hr hb (hx σ) I1 (.cons rfl .nil) q)
end
/-! ### a def that is handed the caught exception, within the suite -/
structure FnE (P : Program) (w : World) (K : PySem.W.Frag) (mg : Str → Option Value) (base : Heap) (CX : CXT) (k : Nat) (f : Addr) (fd : FuncData) (ps : List Str) (sp : Addr → Addr → Sp) : Prop where
  len : ∀ D a vs H Q E, sp D a vs H Q E → vs.length = ps.length
  run : ∀ (A : Around) (outer : List Env) (s : Shared) (H : Hp) (args : Args) (us : List Value) (vs : List V) (Q : VK) (E : XK) (p : Addr × Obj) (D : Addr), RoomH k A → Zc (.ref D) none p.2 → (∃ vs, p.2.data = .fields vs) → PinOk outer H s p → Env0 P w K mg base A outer s H → BindsTo s fd args (ps.zip us) → Vals vs us → sp D p.1 vs H Q E →
    codeAny (model P w) A (.call (.ref f) args) (CR CX outer P w H s Q E) s
theorem fn_ofE {CX : CXT} {P : Program} {w : World} {K : PySem.W.Frag} {mg : Str → Option Value} {base : Heap} {k : Nat} {f : Addr} {name qual : Str} {params : Arguments} {body : List Stmt} {scope : Scope} {dV kV doc pm cdv ct oc : Value} {an od : Option Addr}
    {osl : Array (Option Value)} {N ps : List Str} {sp : Addr → Addr → Sp} (lk : K.lookup f = some ⟨oc, od, .func (PySem.W.fnOf name qual params body scope dV kV doc pm an cdv ct), osl⟩) (hcd : PySem.W.codeIn K cdv qual = true) (S : FnScope N ps scope)
    (len : ∀ D a vs H Q E, sp D a vs H Q E → vs.length = ps.length)
    (hbody : ∀ (A : Around) (outer : List Env) (s : Shared) (H : Hp) (vs : List V) (Q : VK) (E : XK) (p : Addr × Obj) (D : Addr), RoomH k (A.deeper (envOfC qual scope s.heap.objs.size f cdv)) → Zc (.ref D) none p.2 → (∃ vs, p.2.data = .fields vs) → sp D p.1 vs H Q E →
      ∃ t, PSs (cxH CX P w K mg base N qual scope f cdv A outer s H E p) body t ∧ t { nx := fun _ H' => Q .non H', rt := Q } (L2.start N vs) H) :
    FnE P w K mg base CX (k + 1) f (PySem.W.fnOf name qual params body scope dV kV doc pm an cdv ct) ps sp := by
  refine ⟨len, fun A outer s H args us vs Q E p D hr hz hf hpin e0 hb r hsp => ?_⟩
  have hl := len _ _ _ _ _ _ hsp
  have KX : K.In s.heap := e0.mod.kin.keeps fun b o e => (e0.bs b o e).1
  have lim : s.heap.NoLimit := e0.mod.nolimit.keeps fun b o e => (e0.bs b o e).1
  have hkind : ∀ y ∈ ps.zip us, scope.names.lookup y.1 = some .local ∨ (scope.names.lookup y.1 = some .cell ∧ ((cellsFrom (s.heap.objs.size + 1) scope.names []).lookup y.1).isSome = true) := fun ⟨n, v⟩ hy => by
    rcases S.par n (List.of_mem_zip hy).1 with q | q
    · exact .inl q
    · exact .inr ⟨q, PySem.W.cellsFrom_some _ _ _ (.inl q)⟩
  refine codeAny_call_function hr.depth (KX _ _ lk) rfl S.co S.gen rfl (PySem.W.codeRec_of KX hcd) (hb _ _ _ _ ?_)
  refine wpAny_newFunctionEnv_cells S.kind hkind fun env he s1 x => ?_
  subst he
  refine ⟨lim.keeps x.toInCall.keep, codeAny_func ?_⟩
  obtain ⟨t, ht, hq⟩ := hbody A outer s H vs Q E p D (hr.deeper _) hz hf hsp
  have I : Inv (cxH CX P w K mg base N qual scope f cdv A outer s H E p) [] (L2.start N vs) H s1 := inv_startH S hpin e0 hl r x
  refine wpAny_mono (ht.run [] s1 (L2.start N vs) H _ I hq) (fun fl s' hs => ?_) fun e s' hs => hs
  have fin : ∀ {σ' : L2.St} {H' : Hp} {v : V} {u : Value}, Inv (cxH CX P w K mg base N qual scope f cdv A outer s H E p) [] σ' H' s' → RelV v u → Q v H' → CE outer P w H s Q u s' :=
    fun {σ' H' v u} J rv q => ⟨v, H', J.os, J.bare, J.base, J.hok, rv, q⟩
  cases fl with
  | ret u =>
    obtain ⟨v, σ', H', J, rv, q⟩ := hs
    exact fin J rv q
  | next =>
    obtain ⟨σ', H', J, q⟩ := hs
    exact fin (v := V.non) (u := Value.none) J rfl q
  | brk =>
    obtain ⟨_, _, _, q⟩ := hs
    exact False.elim q
  | cont =>
    obtain ⟨_, _, _, q⟩ := hs
    exact False.elim q
section
variable {P : Program} {w : World} {K : PySem.W.Frag} {mg : Str → Option Value} {base : Heap}
theorem okE {x qual : Str} {st : Stmt} {f : Addr} {fd : FuncData} {N ps : List Str} {k : Nat} {sp : Addr → Addr → Sp} (F : Fun K x qual st f fd) (S : FnScope N ps (defScope st)) (len : ∀ D a vs H Q E, sp D a vs H Q E → vs.length = ps.length)
    (hbody : ∀ (cdv : Value) (A : Around) (outer : List Env) (s : Shared) (H : Hp) (vs : List V) (Q : VK) (E : XK) (p : Addr × Obj) (D : Addr), RoomH k (A.deeper (envOfC qual (defScope st) s.heap.objs.size f cdv)) → Zc (.ref D) none p.2 → (∃ vs, p.2.data = .fields vs) → sp D p.1 vs H Q E →
      ∃ t, PSs (cxH CX0 P w K mg base N qual (defScope st) f cdv A outer s H E p) (defBody st) t ∧ t { nx := fun _ H' => Q .non H', rt := Q } (L2.start N vs) H) : FnE P w K mg base CX0 (k + 1) f fd ps sp := by
  obtain ⟨oc, od, kV, doc, pm, an, cdv, ct, osl, rfl, lk, hcd⟩ := F.ex
  exact fn_ofE lk hcd S len fun A outer s H vs Q E p D hr hz hf hsp => hbody cdv A outer s H vs Q E p D hr hz hf hsp
end
def tCallE (sp : Addr → Addr → Sp) (cls : Value) (d : Option Addr) (a : Addr) (E : L2.St → XK) (t : TA) : TE := fun σ H Q => t σ H fun vs H1 => ∃ D, cls = .ref D ∧ d = none ∧ sp D a vs H1 Q (E σ)
section
variable {X : Cx} {CX : CXT} {k : Nat} {f : Addr} {fd : FuncData} {ps : List Str} {sp : Addr → Addr → Sp} {E : L2.St → XK} {x : Str} {q pos : Pos} {e : Expr} {es : List Expr} {t : TA} {a : Addr} {oe : Obj} {cls : Value} {d : Option Addr} {pn : List (Addr × Obj)}
theorem pass0E {X : Cx} {σ : L2.St} {E : XK} : PassesAt CX0 X σ E := fun _ _ _ _ _ _ h => h.elim
theorem pe_callE (hz : Zc cls d oe) (hf : ∃ vs, oe.data = .fields vs) (F : FnE X.prog X.w X.K X.mg X.base CX k f fd ps sp) (hr : Room k X.A) (hg : Gl (X.suite a ((a, oe) :: pn)) x) (hm : X.mg x = some (.ref f)) (hk : PySem.W.keepIn X.K (.ref f) = true) (hb : Binds X.K fd ps []) (hx : ∀ σ, PassesAt CX (X.suite a ((a, oe) :: pn)) σ (E σ))
    (ha : PA (X.suite a ((a, oe) :: pn)) (e :: es) t) (hdb : (x == ("__debug__" : Str)) = false := by decide) (he : starEach (e :: es) X.env = (false, eval e X.env) :: starEach es X.env := by rfl) (hpl : (backTo pos (starEach es X.env)).any (·.1) = false := by rfl) :
    PE (X.suite a ((a, oe) :: pn)) (.Call (.Name x q) (e :: es) [] pos) (tCallE sp cls d a E t) := by
  refine ⟨fun pins s σ H Q I h => ?_⟩
  refine wpAny_Call_Name_kw (ld_glob I hg hm ?_ hdb)
  refine PySem.W.callWith_K (h₀ := X.base) I.ok.mod.kin hk (thn (ha.run pos pins s σ H _ I h) fun us s1 ⟨vs, H1, I1, r, q⟩ => ⟨I1.kIn, ?_⟩) he hpl
  obtain ⟨D, rfl, rfl, q⟩ := q
  have hl : us.length = ps.length := by rw [← r.length]; exact F.len _ _ _ _ _ _ q
  have b := hb s1 us I1.kIn (by rw [List.append_nil]; exact hl)
  rw [List.append_nil] at b
  have P1 := I1.pin (a, oe) (List.mem_append_left _ List.mem_cons_self)
  have hpin : PinOk X.stack H1 s1 (a, oe) := ⟨P1.1, P1.2.1, fun hm => (List.mem_cons.mp (I1.stkSub a hm)).elim P1.2.2.1 P1.2.2.2.1, P1.2.2.2.2⟩
  refine wpAny_call (codeAny_mono (F.run _ X.stack s1 H1 ⟨us, []⟩ us vs Q (E σ) (a, oe) D ⟨hr.dp, hr.un⟩ hz hf hpin I1.env0 b r q) fun r s' hq => ?_)
  cases r with
  | error e => exact hx σ pins H1 s1 e s' I1 hq
  | ok fl =>
    cases fl with
    | ret u => exact I1.after hq
    | next => exact False.elim hq
    | brk => exact False.elim hq
    | cont => exact False.elim hq
end
/-- isinstance(e, c), e the exception that is handed in -/
def rIsP (K : PySem.W.Frag) (D a : Addr) : List V → Hp → VK → Prop := fun xs H Q => ExcC K D ∧ rIsE K D a xs H Q
theorem call_isP {X : Cx} {D : Addr} {p : Addr × Obj} (hp : p ∈ X.pn) (hz : Zc (.ref D) none p.2) (hf : ∃ vs, p.2.data = .fields vs) : CallR X (.builtin "isinstance") (rIsP X.K D p.1) := by
  intro pins s σ H xs us Q I r h
  obtain ⟨C, c, cv, b, rfl, hcv, e, q⟩ := h
  cases r with
  | cons rx rr =>
    cases rr with
    | cons rt rr =>
      cases rr
      cases rx
      have ec := hcv _ rt
      subst ec
      obtain ⟨hget, _⟩ := I.pin p (List.mem_append.mpr (.inl hp))
      obtain ⟨vs, hv⟩ := hf
      have J : PySem.W.InstAt s.heap p.1 p.2 D none := by
        obtain ⟨a, oc, od, oda, osl⟩ := p
        obtain ⟨h1, h2⟩ := hz
        dsimp only at h1 h2 hv hget ⊢
        subst h1 h2 hv
        exact ⟨hget, rfl, rfl, trivial⟩
      exact PySem.W.kia_one (PySem.W.handS_kitx_exc C.hg C.hk C.hs C.hd C.ha C.hn C.ht C.hm) I.kIn J e (fun z => nomatch z) fun tk => ⟨.bl b, H, I.kept (t' := tk) fun _ _ z => z, rfl, q⟩
theorem ev_isP {K : PySem.W.Frag} {D a C : Addr} {σ : L2.St} {H : Hp} {ta tb : TE} {b : Bool} (hC : ExcC K D) (h : Ev ta σ H (.ref a)) (hn : Ev tb σ H (.ref C)) (hk : PySem.W.kitOne K (.ref D) (.ref C) = some b) : Ev (tCB (rIsP K D a) (tCons ta (tCons tb tNil))) σ H (.bl b) :=
  ev_cb (ea_cons h (ea_cons hn ea_nil)) fun H1 e Q q => ⟨hC, .ref C, .ref C, b, rfl, fun u hu => hu, hk, q H1 (Ex.refl H1)⟩
/-- isinstance in the suite, the class open -/
def rIsQ (K : PySem.W.Frag) (a : Addr) (cls : Value) (d : Option Addr) : List V → Hp → VK → Prop := fun xs H Q => ∃ D, cls = .ref D ∧ d = none ∧ ExcC K D ∧ rIsE K D a xs H Q
theorem call_isQ {X : Cx} {a : Addr} {oe : Obj} {cls : Value} {d : Option Addr} {pn : List (Addr × Obj)} (hz : Zc cls d oe) (hf : ∃ vs, oe.data = .fields vs) : CallR (X.suite a ((a, oe) :: pn)) (.builtin "isinstance") (rIsQ X.K a cls d) := by
  intro pins s σ H xs us Q I r h
  obtain ⟨D, rfl, rfl, C, h⟩ := h
  exact call_isE C hz hf pins s σ H xs us Q I r h
theorem ev_isQ {K : PySem.W.Frag} {D a C : Addr} {σ : L2.St} {H : Hp} {ta tb : TE} {b : Bool} (hC : ExcC K D) (h : Ev ta σ H (.ref a)) (hn : Ev tb σ H (.ref C)) (hk : PySem.W.kitOne K (.ref D) (.ref C) = some b) : Ev (tCB (rIsQ K a (.ref D) none) (tCons ta (tCons tb tNil))) σ H (.bl b) :=
  ev_cb (ea_cons h (ea_cons hn ea_nil)) fun H1 e Q q => ⟨D, rfl, rfl, hC, .ref C, .ref C, b, rfl, fun u hu => hu, hk, q H1 (Ex.refl H1)⟩
theorem el_is {te : TE} {σ : L2.St} {H : Hp} {xs ys : List V} (h : EvL te σ H xs) (e : xs = ys) : EvL te σ H ys := by
  rw [← e]
  exact h
theorem rv_isN {H : Hp} {x : V} : RV (fun x y H Q => y = .non ∧ Q (.bl (decide (x = .non))) H) x .non H (.bl (decide (x = .non))) := rv_val fun _ _ Q q => ⟨rfl, q⟩
theorem rv_notN {H : Hp} {x : V} : RV (fun x y H Q => y = .non ∧ Q (.bl (!decide (x = .non))) H) x .non H (.bl (!decide (x = .non))) := rv_val fun _ _ Q q => ⟨rfl, q⟩
/-- a call, then a new instance by its __init__ -/
theorem q_make {C : Addr} {sp : Sp} {σ : L2.St} {H : Hp} {t : TA} {vs : List V} {E : XK} {i : Nat} {tz : TS} {D : Ends} (ht : EvA t σ H vs) (k : ∀ p dx H1 H2, H p = none → H1 p = none → Ex H H1 → H2 p = some (.ins C dx []) → Ex H1 H2 → sp (.ref p :: vs) H2 (fun v H3 => v = .non ∧ tz D (σ.set i (some (.ref p))) H3) E) : tSeq (tAsg (tMake C sp [] E t) (gName i)) tz D σ H :=
  ht H (Ex.refl _) _ fun H1 e1 p dx hp hd hne => by
    have h := k p dx H1 (upd (upd H1 dx (.own p)) p (.ins C dx [])) (fresh_back e1 hp) hp e1 upd_same ((Ex.new hd).mut hp)
    rw [show V.ref p :: (vs ++ []) = V.ref p :: vs by rw [List.append_nil]]
    exact h
/-- runs of a call -/
theorem q_run {sp : Sp} {σ : L2.St} {H : Hp} {tr : TA} {vs : List V} {E : XK} {tz : TS} {D : Ends} {i : Nat} (h : EvA tr σ H vs) (k : ∀ H1, Ex H H1 → sp vs H1 (fun v H2 => tz D (σ.set i (some v)) H2) E) : tSeq (tAsg (tCall sp [] E tr) (gName i)) tz D σ H := h H (Ex.refl H) _ fun H1 e => by
    rw [List.append_nil]
    exact k H1 e
/-! ### what fields and methods evaluate to -/
section
variable {K : PySem.W.Frag} {σ : L2.St} {H : Hp} {ta tb te : TE} {t : TA} {v z : V} {C p dx : Addr} {fs : List (Str × V)} {m : Str} {sp : Sp} {vs : List V} {tz : TS} {D : Ends}
theorem ev_fld (ha : Ev ta σ H (.ref p)) (hi : H p = some (.ins C dx fs)) (c : Cls K C) (n : NoAttr K C m) (hl : fs.lookup m = some v) : Ev (tFld K ta m) σ H v := fun H1 e Q q =>
  ha H1 e _ fun H2 e2 => ⟨p, C, dx, fs, v, rfl, e2 _ _ (e _ _ hi), c, n, hl, q H2 e2⟩
theorem ev_meth {E : XK} (ha : Ev ta σ H (.ref p)) (hi : H p = some (.ins C dx fs)) (hl : fs.lookup m = none) (ht : EvA t σ H vs) (hs : SpV sp (.ref p :: vs) H z) : Ev (tMeth C m sp [] E ta t) σ H z := fun H1 e Q q =>
  ha H1 e _ fun H2 e2 => ⟨p, dx, fs, rfl, e2 _ _ (e _ _ hi), hl, ht H2 (e.trans e2) _ fun H3 e3 => by
    rw [List.append_nil]
    exact hs H3 ((e.trans e2).trans e3) Q (fun H4 e4 => q H4 ((e2.trans e3).trans e4)) E⟩
theorem ev_meth0 {E : XK} (ha : Ev ta σ H (.ref p)) (hi : H p = some (.ins C dx fs)) (hl : fs.lookup m = none) (hs : SpV sp [.ref p] H z) : Ev (tMeth C m sp [] E ta tNil) σ H z := ev_meth ha hi hl ea_nil hs
/-- a method that changes something: its own promise, then the rest -/
theorem m_run {E : XK} {Q : VK} (ha : Ev ta σ H (.ref p)) (hi : H p = some (.ins C dx fs)) (hl : fs.lookup m = none) (ht : EvA t σ H vs) (k : ∀ H1, Ex H H1 → sp (.ref p :: vs) H1 Q E) : tMeth C m sp [] E ta t σ H Q :=
  ha H (Ex.refl _) _ fun H2 e2 => ⟨p, dx, fs, rfl, e2 _ _ hi, hl, ht H2 e2 _ fun H3 e3 => by
    rw [List.append_nil]
    exact k H3 (e2.trans e3)⟩
theorem mA_run {E : L2.St → XK} {Q : VK} (ha : Ev ta σ H (.ref p)) (hi : H p = some (.ins C dx fs)) (hl : fs.lookup m = none) (ht : EvA t σ H vs) (k : ∀ H1, Ex H H1 → sp (.ref p :: vs) H1 Q (E σ)) : tMethA C m sp E ta t σ H Q :=
  ha H (Ex.refl _) _ fun H2 e2 => ⟨p, dx, fs, rfl, e2 _ _ hi, hl, ht H2 e2 _ fun H3 e3 => k H3 (e2.trans e3)⟩
theorem q_m {E : XK} (ha : Ev ta σ H (.ref p)) (hi : H p = some (.ins C dx fs)) (hl : fs.lookup m = none) (ht : EvA t σ H vs) (k : ∀ H1, Ex H H1 → sp (.ref p :: vs) H1 (fun _ H2 => tz D σ H2) E) : tSeq (tDrop (tMeth C m sp [] E ta t)) tz D σ H := m_run (Q := fun _ H2 => tz D σ H2) ha hi hl ht k
theorem s_m {E : XK} (ha : Ev ta σ H (.ref p)) (hi : H p = some (.ins C dx fs)) (hl : fs.lookup m = none) (ht : EvA t σ H vs) (k : ∀ H1, Ex H H1 → sp (.ref p :: vs) H1 (fun _ H2 => D.nx σ H2) E) : tDrop (tMeth C m sp [] E ta t) D σ H := m_run (Q := fun _ H2 => D.nx σ H2) ha hi hl ht k
theorem r_m {E : XK} (ha : Ev ta σ H (.ref p)) (hi : H p = some (.ins C dx fs)) (hl : fs.lookup m = none) (ht : EvA t σ H vs) (k : ∀ H1, Ex H H1 → sp (.ref p :: vs) H1 D.rt E) : tRet (tMeth C m sp [] E ta t) D σ H := m_run (Q := D.rt) ha hi hl ht k
theorem q_mA {i : Nat} {E : XK} (ha : Ev ta σ H (.ref p)) (hi : H p = some (.ins C dx fs)) (hl : fs.lookup m = none) (ht : EvA t σ H vs) (k : ∀ H1, Ex H H1 → sp (.ref p :: vs) H1 (fun v H2 => tz D (σ.set i (some v)) H2) E) : tSeq (tAsg (tMeth C m sp [] E ta t) (gName i)) tz D σ H := m_run (Q := fun v H2 => tz D (σ.set i (some v)) H2) ha hi hl ht k
/-- the same in a try's body -/
theorem r_mA {E : L2.St → XK} (ha : Ev ta σ H (.ref p)) (hi : H p = some (.ins C dx fs)) (hl : fs.lookup m = none) (ht : EvA t σ H vs) (k : ∀ H1, Ex H H1 → sp (.ref p :: vs) H1 D.rt (E σ)) : tRet (tMethA C m sp E ta t) D σ H := mA_run (Q := D.rt) ha hi hl ht k
theorem q_mAD {E : L2.St → XK} (ha : Ev ta σ H (.ref p)) (hi : H p = some (.ins C dx fs)) (hl : fs.lookup m = none) (ht : EvA t σ H vs) (k : ∀ H1, Ex H H1 → sp (.ref p :: vs) H1 (fun _ H2 => tz D σ H2) (E σ)) : tSeq (tDrop (tMethA C m sp E ta t)) tz D σ H := mA_run (Q := fun _ H2 => tz D σ H2) ha hi hl ht k
theorem q_mAA {i : Nat} {E : L2.St → XK} (ha : Ev ta σ H (.ref p)) (hi : H p = some (.ins C dx fs)) (hl : fs.lookup m = none) (ht : EvA t σ H vs) (k : ∀ H1, Ex H H1 → sp (.ref p :: vs) H1 (fun v H2 => tz D (σ.set i (some v)) H2) (E σ)) : tSeq (tAsg (tMethA C m sp E ta t) (gName i)) tz D σ H := mA_run (Q := fun v H2 => tz D (σ.set i (some v)) H2) ha hi hl ht k
/-- o.f = e -/
theorem s_fld (hv : Ev te σ H v) (ha : Ev ta σ H (.ref p)) (hi : H p = some (.ins C dx fs)) (c : Cls K C) (n : NoAttr K C m) (hz : fs.length < 1000) (k : ∀ H1, Ex H H1 → D.nx σ (upd H1 p (.ins C dx (putF m v fs)))) : sFld K ta te m D σ H :=
  hv H (Ex.refl _) _ fun H1 e1 => ha H1 e1 _ fun H2 e2 => ⟨p, C, dx, fs, rfl, e2 _ _ (e1 _ _ hi), c, n, hz, k H2 (e1.trans e2)⟩
theorem s_fldL {xs : List V} (hv : EvL te σ H xs) (ha : Ev ta σ H (.ref p)) (hi : H p = some (.ins C dx fs)) (c : Cls K C) (n : NoAttr K C m) (hz : fs.length < 1000) (k : ∀ l H1, H l = none → Ex H H1 → H1 l = some (.lst xs) → D.nx σ (upd H1 p (.ins C dx (putF m (.ref l) fs)))) : sFld K ta te m D σ H :=
  hv H (Ex.refl _) _ fun l H1 hl e1 h1 => ha H1 e1 _ fun H2 e2 => ⟨p, C, dx, fs, rfl, e2 _ _ (e1 _ _ hi), c, n, hz, k l H2 hl (e1.trans e2) (e2 _ _ h1)⟩
theorem q_fld (hv : Ev te σ H v) (ha : Ev ta σ H (.ref p)) (hi : H p = some (.ins C dx fs)) (c : Cls K C) (n : NoAttr K C m) (hz : fs.length < 1000) (k : ∀ H1, Ex H H1 → tz D σ (upd H1 p (.ins C dx (putF m v fs)))) : tSeq (sFld K ta te m) tz D σ H := s_fld (D := { D with nx := tz D }) hv ha hi c n hz k
theorem q_fldL {xs : List V} (hv : EvL te σ H xs) (ha : Ev ta σ H (.ref p)) (hi : H p = some (.ins C dx fs)) (c : Cls K C) (n : NoAttr K C m) (hz : fs.length < 1000) (k : ∀ l H1, H l = none → Ex H H1 → H1 l = some (.lst xs) → tz D σ (upd H1 p (.ins C dx (putF m (.ref l) fs)))) : tSeq (sFld K ta te m) tz D σ H := s_fldL (D := { D with nx := tz D }) hv ha hi c n hz k
/-- xs[j] += e -/
theorem s_augL {f : Int → Int → Int} {l : Addr} {xs : List V} {j : Nat} {a b : Int} (ho : Ev ta σ H (.ref l)) (hi : Ev tb σ H (.int (j : Int))) (hl : H l = some (.lst xs)) (hj : xs[j]? = some (.int a)) (he : Ev te σ H (.int b)) (k : ∀ H1, Ex H H1 → D.nx σ (upd H1 l (.lst (xs.set j (.int (f a b)))))) :
    tAugS ta tb te (rIxL K) (ipI f) rSetL D σ H := ho H (Ex.refl _) _ fun H1 e1 => hi H1 e1 _ fun H2 e2 => ⟨l, xs, (j : Int), .int a, rfl, rfl, sq_of (e2 _ _ (e1 _ _ hl)), atI_nat hj, he H2 (e1.trans e2) _ fun H3 e3 => ⟨a, b, rfl, rfl, l, xs, (j : Int), j, rfl, rfl, e3 _ _ (e2 _ _ (e1 _ _ hl)), ixN_nat (List.getElem?_eq_some_iff.mp hj).1, k H3 ((e1.trans e2).trans e3)⟩⟩
theorem q_augL {f : Int → Int → Int} {l : Addr} {xs : List V} {j : Nat} {a b : Int} (ho : Ev ta σ H (.ref l)) (hi : Ev tb σ H (.int (j : Int))) (hl : H l = some (.lst xs)) (hj : xs[j]? = some (.int a)) (he : Ev te σ H (.int b)) (k : ∀ H1, Ex H H1 → tz D σ (upd H1 l (.lst (xs.set j (.int (f a b)))))) :
    tSeq (tAugS ta tb te (rIxL K) (ipI f) rSetL) tz D σ H := s_augL (D := { D with nx := tz D }) ho hi hl hj he k
end
/-! ### heaps in which the objects of S may change -/
def Fr (S : Addr → Prop) (H H' : Hp) : Prop := ∀ a o, H a = some o → ¬ S a → H' a = some o
theorem Fr.of {S : Addr → Prop} {H H' : Hp} (e : Ex H H') : Fr S H H' := fun a o h _ => e a o h
theorem Fr.trans {S : Addr → Prop} {H H1 H2 : Hp} (e : Fr S H H1) (f : Fr S H1 H2) : Fr S H H2 := fun a o h n => f a o (e a o h n) n
theorem Fr.mut {S : Addr → Prop} {H H' : Hp} {p : Addr} {o : HO} (e : Fr S H H') (h : S p) : Fr S H (upd H' p o) := fun a u ha n => by
  rw [upd_ne fun z => n (by rw [z]; exact h)]
  exact e a u ha n
theorem Fr.fresh {S : Addr → Prop} {H H' : Hp} {p : Addr} (e : Fr S H H') (h : H' p = none) (n : ¬ S p) : H p = none := by
  cases h1 : H p with
  | none => rfl
  | some o =>
    rw [e p o h1 n] at h
    cases h
/-- what H0 has stays, when what changes is none of it -/
theorem Fr.ex {S : Addr → Prop} {H0 H H' : Hp} (e : Ex H0 H) (f : Fr S H H') (n : ∀ a, S a → H0 a = none) : Ex H0 H' := fun a o h => f a o (e a o h) fun s => by
  rw [n a s] at h
  cases h
/-- what is read stands when an instance changes -/
theorem mut_l {K : PySem.W.Frag} {H H1 : Hp} {p C dx a : Addr} {fs fs' : List (Str × V)} {xs : List V} (e : Ex H H1) (hp : H p = some (.ins C dx fs)) (h : SqL K H a xs) : SqL K (upd H1 p (.ins C dx fs')) a xs := by
  rcases h with (h | ⟨o, h⟩) | h
  · exact .inl (.inl (by rw [upd_ne (ne_of h hp (by intro z; cases z))]; exact e _ _ h))
  · exact .inl (.inr ⟨o, by rw [upd_ne (ne_of h hp (by intro z; cases z))]; exact e _ _ h⟩)
  · exact .inr h
theorem mut_t {K : PySem.W.Frag} {H H1 : Hp} {p C dx a : Addr} {fs fs' : List (Str × V)} {xs : List V} (e : Ex H H1) (hp : H p = some (.ins C dx fs)) (h : SqT K H a xs) : SqT K (upd H1 p (.ins C dx fs')) a xs := by
  rcases h with (h | ⟨o, h⟩) | h
  · exact .inl (.inl (by rw [upd_ne (ne_of h hp (by intro z; cases z))]; exact e _ _ h))
  · exact .inl (.inr ⟨o, by rw [upd_ne (ne_of h hp (by intro z; cases z))]; exact e _ _ h⟩)
  · exact .inr h
/-- list(a tuple) -/
theorem el_listT {K : PySem.W.Frag} {σ : L2.St} {H : Hp} {ta : TE} {p : Addr} {xs : List V} (ha : Ev ta σ H (.ref p)) (h : SqT K H p xs) : EvL (tCB (rListS K) (tCons ta tNil)) σ H xs := fun H1 e Q q =>
  ha H1 e _ fun H2 e2 => ⟨p, xs, rfl, Or.inr (ex_t (e.trans e2) h), fun l hl => q l _ (fresh_back e2 hl) (e2.trans (Ex.new hl)) upd_same⟩
/-! ### comprehensions over two lists at once -/
theorem el_lcZ {K : PySem.W.Frag} {σ : L2.St} {H : Hp} {a b : Addr} {xs ys : List V} {t : TA} {tt : TT} {te : TE} {i j : Nat} {vs : List Nat} (f : Nat → Bool) (v : Nat → V) (h : EvA t σ H [.ref a, .ref b]) (hx : SqL K H a xs) (hy : SqL K H b ys) (hlen : xs.length = ys.length) (hz : xs.length ≤ 40000)
    (hw : ∀ x y, wipe (((wipe σ vs).set i (some x)).set j (some y)) vs = wipe σ vs)
    (ht : ∀ (n : Nat) (x y : V) H1, Ex H H1 → xs[n]? = some x → ys[n]? = some y → EvT tt (((wipe σ vs).set i (some x)).set j (some y)) H1 (f n)) (he : ∀ (n : Nat) (x y : V) H1, Ex H H1 → xs[n]? = some x → ys[n]? = some y → f n = true → Ev te (((wipe σ vs).set i (some x)).set j (some y)) H1 (v n)) :
    EvL (tLc (iZip K t) (gTup K 2 (gCons (gName i) (gCons (gName j) gNil))) tt te vs) σ H (given xs.length f v) := fun H0 e Q q => h H0 e _ fun H1 e1 => ⟨a, b, xs, ys, rfl, ex_l (e.trans e1) hx, ex_l (e.trans e1) hy, fun Dl hD =>
  lc_it (walk_zip (K := K) (a := a) (b := b) (xs := xs) (ys := ys) (n := xs.length) (by omega)) (Cw H1 f v Dl) ⟨hD, Ex.new hD, upd_same⟩ (fun i H' _ p => ⟨ex_l ((e.trans e1).trans p.2.1) hx, ex_l ((e.trans e1).trans p.2.1) hy⟩)
    (fun n z H2 H2' hn p y => by
      obtain ⟨T, x1, y1, rfl, hT, rfl, h1, h2⟩ := y
      have p' : Cw H1 f v Dl n (upd H2 T (.tup [x1, y1])) := ⟨p.1, p.2.1.trans (Ex.new hT), (Ex.new hT) _ _ p.2.2⟩
      have e2 := ((e.trans e1).trans p'.2.1)
      refine ⟨T, _, rfl, st_of upd_same, rfl, _, _, rfl, _, _, rfl, rfl, hw x1 y1, cw_turn (H := H1) p' (by omega) ?_ ?_⟩
      · exact ht n x1 y1 H1 (e.trans e1) h1 h2
      · exact fun hf => he n x1 y1 H1 (e.trans e1) h1 h2 hf)
    (fun H' p => q Dl H' (fresh_back e1 p.1) (e1.trans p.2.1) p.2.2)⟩
end LO

set_option Elab.async false
set_option linter.all false
set_option maxRecDepth 100000
set_option maxHeartbeats 4000000
namespace LN
open PySem PySem.Spec PyProof.Rows L2 Evl LT LG LS LQ
section
variable {X : Cx} {σ : L2.St} {H : Hp} {P : Addr} {scope : Scope} {x : Str} {u : Value} {a b c : Expr} {za zb zc z : V} {pos p : Pos}
theorem qv_ixL {l : Addr} {xs : List V} {i : Int} (hT : Tab H P) (hq : SqL X.K H l xs) (he : atI xs i = some z) (h0 : 0 ≤ i) (ha : QV X σ H P scope x u a (.ref l)) (hb : QV X σ H P scope x u b (.int i)) (hs : PlainIx b := by intro _ _; rfl) : QV X σ H P scope x u (.Subscript a b pos) z := fun cenv A' E' s m F =>
  Subscript_ (qv_two (f := fun v w => subscriptTail a b v w) ha hb (fun cenv A' E' s2 m2 v w F2 r1 r2 => by
    cases r1
    obtain ⟨t, rfl⟩ := r2
    obtain ⟨its, r, pl, hz⟩ := F2.list hT hq
    obtain ⟨j, h1, h2, h3, h4, h5⟩ := atI_get he
    obtain ⟨w', ew, rw'⟩ := r.get h2
    have hl := r.length
    have hn := line63
    have hj : i.toNat = j := by
      rw [seqIndex_of h0 h5] at h1
      exact Option.some.inj h1
    exact item_listR pl.isList h0 (by omega) (by rw [hj]; simpa using ew) ⟨rw', kp_refl _⟩ (hs _ _)) cenv A' E' s m F)
theorem qv_ixT {l : Addr} {xs : List V} {i : Int} (hT : Tab H P) (hq : SqT X.K H l xs) (he : atI xs i = some z) (ha : QV X σ H P scope x u a (.ref l)) (hb : QV X σ H P scope x u b (.int i)) (hs : PlainIx b := by intro _ _; rfl) : QV X σ H P scope x u (.Subscript a b pos) z := fun cenv A' E' s m F =>
  Subscript_ (qv_two (f := fun v w => subscriptTail a b v w) ha hb (fun cenv A' E' s2 m2 v w F2 r1 r2 => by
    cases r1
    obtain ⟨t, rfl⟩ := r2
    obtain ⟨its, r, pl, hz⟩ := F2.tuple hT hq
    obtain ⟨j, h1, h2, h3, h4, h5⟩ := atI_get he
    obtain ⟨w', ew, rw'⟩ := r.get h2
    have hl := r.length
    have hn := line63
    exact subscriptTail_builtinR (x := w') pl.typeIs slot_tuple_getitem.lookup
      (getItem_tuple (j := j) (Q := fun r s' => r = w' ∧ (RelV z r ∧ Keeps s2 s')) pl (by omega) (by omega) (by rw [List.size_toArray, ← hl]; exact h1) (by simpa using ew) ⟨rfl, rw', kp_refl _⟩) (hs _ _)) cenv A' E' s m F)
theorem qr_ltT {l r : Addr} {ns ms : List Int} (hT : Tab H P) (hu : X.A.units + 8 < cLine) (ha : SqT X.K H l (ns.map V.int)) (hb : SqT X.K H r (ms.map V.int)) : QR X σ H P scope x u (compareOp .Lt) (.ref l) (.ref r) (.bl (HT.lexLt ns ms)) := fun cenv A' E' s m v w F r1 r2 => by
  cases r1
  cases r2
  obtain ⟨its, r1, p1, _⟩ := F.tuple hT ha
  obtain ⟨its2, r2, p2, _⟩ := F.tuple hT hb
  have i1 : IntsAre its.toArray.toList ns := intsAre_of r1
  have i2 : IntsAre its2.toArray.toList ms := intsAre_of r2
  exact HT.lt_tupInts p1 p2 i1 i2 (Nat.lt_of_le_of_lt F.un hu) ⟨rfl, kp_refl _⟩
theorem qr_lt_int {i j : Int} : QR X σ H P scope x u (compareOp .Lt) (.int i) (.int j) (.bl (decide (i < j))) := fun cenv A' E' s m v w F r1 r2 => by
  obtain ⟨t, rfl⟩ := r1
  obtain ⟨t', rfl⟩ := r2
  exact lt_int ⟨rfl, kp_refl _⟩
theorem qv_chain {op op' : CmpOp} {f g : Bool} (hr : QR X σ H P scope x u (compareOp op) za zb (.bl f)) (hr' : QR X σ H P scope x u (compareOp op') zb zc (.bl g)) (ha : QV X σ H P scope x u a za) (hb : QV X σ H P scope x u b zb) (hc : QV X σ H P scope x u c zc)
    (hm : lastMarks [op, op'] [b, c] = false := by with_unfolding_all rfl) : QV X σ H P scope x u (.Compare a [op, op'] [b, c] pos) (.bl (f && g)) := fun cenv A' E' s m F => by
  refine Compare_chain (wpAny_mono (ha cenv A' E' s m F) (fun v s1 r1 => chain_link (wpAny_mono (hb cenv A' E' s1 m (F.keeps r1.2)) (fun w s2 r2 => wpAny_mono (hr cenv A' E' s2 m v w ((F.keeps r1.2).keeps r2.2) r1.1 r2.1) (fun d s3 r3 => ?_) fun _ _ e => e) fun _ _ e => e)) fun _ _ e => e) hm
  obtain ⟨rfl, k3⟩ := r3
  have k := kp_trans (kp_trans r1.2 r2.2) k3
  refine wpAny_truthy_bool ?_
  cases f with
  | false => exact ite_ff ⟨rfl, k⟩
  | true => exact ite_tt (chain_last (wpAny_mono (hc cenv A' E' s3 m (F.keeps k)) (fun y s4 r4 => wpAny_mono (hr' cenv A' E' s4 m w y ((F.keeps k).keeps r4.2) r2.1 r4.1) (fun e s5 r5 => ⟨r5.1, kp_trans (kp_trans k r4.2) r5.2⟩) fun _ _ e => e) fun _ _ e => e))
/-- an own def of one argument, a pair that it unpacks; it returns one test of each part -/
theorem qv_call2 {nm pn qual ya yb : Str} {st : Stmt} {f : Addr} {fd : FuncData} {N : List Str} {e1 e2 : Expr} {py1 py2 tp np ap bp rp : Pos} {kt k : Nat} {t : Addr} {v1 v2 : V} {c1 c2 : Bool} (hr : Room k X.A) (hT : Tab H P) (hk : scope.kind = .function) (hl : scope.names.lookup nm = some .globalImplicit) (hm : X.mg nm = some (.ref f)) (F : Fun X.K nm qual st f fd)
    (hbody : defBody st = [.Assign [.Tuple [.Name ya py1, .Name yb py2] kt tp] (.Name pn np) ap, .Return (some (.BoolOp .And [e1, e2] bp)) rp]) (S : FnScope N [pn] (defScope st)) (hloc : (defScope st).names.lookup pn = some .local) (hla : (defScope st).names.lookup ya = some .local) (hlb : (defScope st).names.lookup yb = some .local) (hab : ya ≠ yb)
    (hb : Binds X.K fd [pn] []) (ha : QV X σ H P scope x u a (.ref t)) (ht : SqT X.K H t [v1, v2])
    (h1 : ∀ (A0 : Around) (v : Value), RelV v1 v → QV { X with A := A0 } σ H P (defScope st) ya v e1 (.bl c1)) (h2 : ∀ (A0 : Around) (v : Value), RelV v2 v → QV { X with A := A0 } σ H P (defScope st) yb v e2 (.bl c2))
    (hs : ∀ env, starEach [a] env = (false, eval a env) :: starEach [] env := by intro _; rfl) (hd : (nm == ("__debug__" : Str)) = false := by decide) (hdp : (pn == ("__debug__" : Str)) = false := by decide) :
    QV X σ H P scope x u (.Call (.Name nm p) [a] [] pos) (.bl (c1 && c2)) := fun cenv A' E' s m Fc0 => by
  refine wpAny_Call_Name_kw (Calls.Name_function_global (by rw [Fc0.sc]; exact hk) (show cenv.scope.names.lookup nm = some .globalImplicit by rw [Fc0.sc]; exact hl) (Calls.loadGlobal_global (by rw [Fc0.gl]; exact Fc0.md.glob.keeps Fc0.base) hm ?_) hd)
  refine PySem.W.callWith_K (h₀ := X.base) Fc0.md.kin F.kp ?_ (hs cenv) (by rfl)
  rw [hs cenv]
  show wpAny _ _ (spliced ((false, eval a cenv) :: [])) _ _ s
  refine Calls.spliced_cons (wpAny_mono (ha cenv A' E' s m Fc0) (fun v s1 r1 => Calls.spliced_nil ?_) fun _ _ e => e)
  have F1 := Fc0.keeps r1.2
  refine ⟨F1.kin, ?_⟩
  obtain ⟨oc, od, kV, doc, pm, an, cdv, ct, osl, rfl, lk, hcd⟩ := F.ex
  have rv := r1.1
  refine wpAny_call (Att.call_fn (binds := [(pn, v)]) F1.kin (F1.md.nolimit.keeps F1.base) lk hcd (by have := hr.dp; have := Fc0.dp; omega) (hb s1 [v] F1.kin rfl) ?_ (fun s2 IC => ?_) S.co S.gen S.kind)
  · simp only [List.all_cons, List.all_nil, Bool.and_true, Bool.or_eq_true, beq_iff_eq]
    exact .inl hloc
  · obtain ⟨h2', tk2, rfl⟩ := IC.toInCall.same
    have kk : ∀ b o, s1.heap.get? b = some o → h2'.get? b = some o := IC.toInCall.keep
    rw [hbody]
    have Fn : Fc { X with A := A' } σ H P (defScope st) pn v (envOfC qual (defScope st) s1.heap.objs.size f cdv) (A'.deeper (envOfC qual (defScope st) s1.heap.objs.size f cdv)) { s1 with heap := h2', toks := tk2 } _ :=
      ⟨Fc0.hd, Nat.le_refl _, by show A'.units + 3 ≤ A'.units + 8; omega, rfl, rfl, rfl, IC.toInCall.ns, by
        show bindL _ [(pn, v)] _ pn = some v
        unfold bindL
        have hkd : (envOfC qual (defScope st) s1.heap.objs.size f cdv).kindOf pn = some .local := hloc
        rw [hkd]
        simp [bindL], fun b o e => kk b o (F1.base b o e), F1.md, F1.hok.kept kk, fun i y w h1 h2 h3 h4 => absurd rfl (S.nofree (y, .free) (lookup_mem' h4))⟩
    cases rv
    obtain ⟨its, ri, tup, _⟩ := Fn.tuple hT ht
    cases ri with
    | cons ra rr =>
      rename_i w1 wr
      cases rr with
      | cons rb rn =>
        rename_i w2 wn
        cases rn
        refine wpAny_execs_cons (Assign_Tuple (wpAny_mono (qv_x (X := { X with A := A' }) S.kind hloc (show RelV (.ref t) (.ref t) from rfl) hdp _ _ _ _ _ Fn) (fun y s3 r3 => ?_) fun _ _ e => e))
        obtain ⟨ry, h3, tk3, rfl, k3⟩ := r3
        cases ry
        refine assign_Tuple_tuple Fn.hd (tup.keeps k3) (by rfl) (by rfl) fun h4 hx4 => ?_
        have kL : ∀ b o, s1.heap.get? b = some o → b ≠ s1.heap.objs.size := fun b o e => Nat.ne_of_lt (Heap.lt_size e)
        have kx : ∀ b o, h3.get? b = some o → h4.get? b = some o := fun b o e => hx4 b o (Nat.ne_of_lt (Heap.lt_size e)) e
        have n4 := ((Fn.keeps ⟨h3, tk3, rfl, k3⟩).keeps (s₃ := { s1 with heap := h4, toks := tk3 }) ⟨h4, tk3, rfl, kx⟩).ns
        refine assignInOrder_cons (assign_Name (wpAny_storeName_local hla n4 (fun h5 n5 b5 => ?_) (by simp [envOfC, S.kind])))
        refine assignInOrder_cons (assign_Name (wpAny_storeName_local hlb n5 (fun h6 n6 b6 => ?_) (by simp [envOfC, S.kind])))
        refine assignInOrder_nil ?_
        have k6 : ∀ b o, s1.heap.get? b = some o → h6.get? b = some o := fun b o e => b6.extBut b o (kL b o e) (b5.extBut b o (kL b o e) (kx b o (k3 b o (kk b o e))))
        have FF : ∀ (y : Str) (w : Value), (if y = yb then some w2 else if y = ya then some w1 else none) = some w → Fc { X with A := A' } σ H P (defScope st) y w (envOfC qual (defScope st) s1.heap.objs.size f cdv) (A'.deeper (envOfC qual (defScope st) s1.heap.objs.size f cdv)) { s1 with heap := h6, toks := tk3 + 1 + 1 } _ := fun y w e => by
          refine ⟨Fc0.hd, Nat.le_refl _, (by show A'.units + 3 ≤ A'.units + 8; omega), rfl, rfl, rfl, n6, ?_, fun b o e => k6 b o (F1.base b o e), F1.md, F1.hok.kept k6, fun i y w h1 h2 h3 h4 => absurd rfl (S.nofree (y, .free) (lookup_mem' h4))⟩
          show (if y = yb then some w2 else if y = ya then some w1 else _) = some w
          by_cases q1 : y = yb
          · rw [if_pos q1] at e ⊢
            exact e
          · rw [if_neg q1] at e ⊢
            by_cases q2 : y = ya
            · rw [if_pos q2] at e ⊢
              exact e
            · rw [if_neg q2] at e
              cases e
        refine wpAny_execs_cons (wpAny_Return_some (BoolOp_and (wpAny_mono (h1 A' w1 ra _ _ _ _ _ (FF ya w1 (by rw [if_neg hab, if_pos rfl]))) (fun y s7 r7 => ?_) fun _ _ e => e)))
        obtain ⟨rfl, k7⟩ := r7
        refine wpAny_truthy_bool ?_
        have kA := kp_trans r1.2 (kp_trans (s1 := { s1 with heap := h6, toks := tk3 + 1 + 1 }) ⟨h6, _, rfl, k6⟩ k7)
        cases c1 with
        | true => exact BoolOp_one (wpAny_mono (h2 A' w2 rb _ _ _ _ _ ((FF yb w2 (if_pos rfl)).keeps k7)) (fun y s8 r8 => ⟨r8.1, kp_trans kA r8.2⟩) fun _ _ e => e)
        | false => exact ⟨rfl, kA⟩
end
/-! ### a list of pairs is walked -/
def SrcT (K : PySem.W.Frag) (H : Hp) (v : V) (n : Nat) (xs : Nat → V) : Prop := ∃ (a : Addr) (l : List V), v = .ref a ∧ SqL K H a l ∧ n = l.length ∧ ∀ i, i < n → ∃ (T : Addr) (y : V), l[i]? = some (.ref T) ∧ SqT K H T [y, xs i]
section
variable {X : Cx} {pins : List (Addr × Obj)} {σ : L2.St} {H : Hp} {s : Shared}
theorem src_iterT {v : V} {xv : Value} {n : Nat} {xs : Nat → V} {P : Addr} {Q : Value → Shared → Prop} {E : Value → Shared → Prop} (S : SrcT X.K H v n xs) (I : Inv X pins σ H s) (r : RelV v xv) (hT : Tab H P)
    (h : ∀ (o : Obj) (fp : List Addr) (Pf : Nat → Array Value → Prop) (St : Nat → Heap → Prop) (Mid : Nat → Addr → Heap → Prop), (∀ i va vb, Pf i #[va, vb] → i < n ∧ RelV (xs i) vb) → (∀ A' : Around, A'.handled = none → WalksU X.prog X.w A' s.heap.objs.size fp [s.heap.objs.size] n Pf St Mid) → (∀ i vals, Pf i vals → ∃ va vb, vals = #[va, vb]) →
      St 0 (s.heap.push o) → (∀ b ∈ fp, b ≤ s.heap.objs.size ∧ b ≠ P) → Q (.ref s.heap.objs.size) { s with heap := s.heap.push o }) : wpAny (model X.prog X.w) X.A (pyIter xv) Q E s := by
  have Plt : P < s.heap.objs.size := Heap.lt_size (hT.of_ok I.hok).choose_spec.1
  have szP : s.heap.objs.size ≠ P := fun z => Nat.lt_irrefl _ (z ▸ Plt : s.heap.objs.size < s.heap.objs.size)
  obtain ⟨a, l, rfl, hl, rfl, hx⟩ := S
  cases r
  obtain ⟨its, rv, pl, _⟩ := I.list hl
  have hal : a < s.heap.objs.size := let ⟨_, e, _⟩ := pl.isList; Heap.lt_size e
  have naP : a ≠ P := fun e => by
    obtain ⟨ps, e1, _⟩ := hT.of_ok I.hok
    obtain ⟨o, n, e2, e3, _, e4⟩ := pl
    rw [e, e1] at e2
    cases e2
    cases e3
  have hne : a ≠ s.heap.objs.size := Nat.ne_of_lt hal
  have en : its.toArray.size = l.length := by rw [List.size_toArray]; exact rv.length.symm
  have ev : ∀ i : Nat, ∃ (T : Addr) (va vb : Value), i < l.length → its.toArray[i]? = some (.ref T) ∧ IsTup s.heap T #[va, vb] ∧ RelV (xs i) vb := fun i => by
    by_cases hi : i < l.length
    · obtain ⟨T, y, e1, e2⟩ := hx i hi
      obtain ⟨w, ew, rw'⟩ := rv.get e1
      cases rw'
      obtain ⟨js, rj, tj, _⟩ := I.tuple e2
      cases rj with
      | cons ra rr =>
        rename_i w1 wr
        cases rr with
        | cons rb rn =>
          rename_i w2 wn
          cases rn
          exact ⟨T, w1, w2, fun _ => ⟨by simpa using ew, tj, rb⟩⟩
    · exact ⟨0, .none, .none, fun h => absurd h hi⟩
  refine wpAny_pyIter_list pl.isList ?_
  let Ts : Nat → Addr := fun i => (ev i).choose
  let va : Nat → Value := fun i => (ev i).choose_spec.choose
  let vb : Nat → Value := fun i => (ev i).choose_spec.choose_spec.choose
  have sp : ∀ i, i < l.length → its.toArray[i]? = some (.ref (Ts i)) ∧ IsTup s.heap (Ts i) #[va i, vb i] ∧ RelV (xs i) (vb i) := fun i => (ev i).choose_spec.choose_spec.choose_spec
  have tlt : ∀ i, i < l.length → Ts i < s.heap.objs.size := fun i hi => (sp i hi).2.1.lt
  have tnP : ∀ i, i < l.length → Ts i ≠ P := fun i hi e => by
    obtain ⟨ps, e1, _⟩ := hT.of_ok I.hok
    obtain ⟨o, e2, e3, _⟩ := (sp i hi).2.1
    rw [e, e1] at e2
    cases e2
    cases e3
  refine h _ (s.heap.objs.size :: a :: (List.range its.toArray.size).map Ts) (fun j v => j < l.length ∧ v = #[va j, vb j]) (fun j h => h.IsListIter s.heap.objs.size a j ∧ h.IsList a its.toArray ∧ ∀ k, k < its.toArray.size → h.IsTuple (Ts k) #[va k, vb k]) (fun j T h => (j < its.toArray.size ∧ T = Ts j) ∧ h.IsListIter s.heap.objs.size a (j + 1) ∧ h.IsList a its.toArray ∧ ∀ k, k < its.toArray.size → h.IsTuple (Ts k) #[va k, vb k]) (fun i wa wb hp => ?_) (fun A' hA => ?_) (fun i vals hp => ⟨_, _, hp.2⟩) ⟨⟨_, Heap.get?_push_size _ rfl, rfl, rfl⟩, pl.isList.at fun o e => Heap.get?_push_of_some _ e, fun k hk => ?_⟩ fun b hb => ?_
  · obtain ⟨hi, e⟩ := hp
    have e2 : wb = vb i := (by simpa using congrArg Array.toList e : wa = va i ∧ wb = vb i).2
    rw [e2]
    exact ⟨hi, (sp i hi).2.2⟩
  · have W := WalksU.listOfTuples (prog := X.prog) (w := X.w) hA s.heap.objs.size a hne its.toArray Ts (fun i => #[va i, vb i]) (fun j hj => (sp j (by rw [← en]; exact hj)).1) (fun j hj => Nat.ne_of_lt (tlt j (by rw [← en]; exact hj)))
    rw [← en]
    exact ⟨W.sub, W.frame, fun i s Q E hi st hQ => W.item i s Q E hi st fun T vals h' tk hv => hQ T vals h' tk ⟨hi, hv⟩, W.go, W.apart, W.done, W.self⟩
  · exact Heap.IsTuple.at ((sp k (by rw [← en]; exact hk)).2.1) fun o e => Heap.get?_push_of_some _ e
  · rcases List.mem_cons.mp hb with e | hb
    · rw [e]
      exact ⟨Nat.le_refl _, szP⟩
    · rcases List.mem_cons.mp hb with e | hb
      · rw [e]
        exact ⟨Nat.le_of_lt hal, naP⟩
      · obtain ⟨i, hi, rfl⟩ := List.mem_map.mp hb
        have hi' : i < l.length := by rw [← en]; exact List.mem_range.mp hi
        exact ⟨Nat.le_of_lt (tlt i hi'), tnP i hi'⟩
theorem gen_makeT {c P : Addr} {elt iter : Expr} {xa x : Str} {pa px pt gpos : Pos} {kt : Nat} {scope : Scope} {te : TE} {k : Nat} {Q' : Value → Shared → Prop} {R : Nat → (Nat → Bool) → Hp → Prop}
    (hr : Room k X.A) (TB : LamX.TabB X.base X.mg c P) (hcode : X.env.code = .ref c) (S : GxR.GenS X.env scope x) (hxa : scope.names.lookup xa = some .local) (hab : xa ≠ x) (hi : PE X iter te) (hs : ∀ v, genFold iter X.env v = pure v) (I : Inv X pins σ H s)
    (h : te σ H fun v H1 => Tab H1 P ∧ ∃ (n : Nat) (xs : Nat → V) (f : Nat → Bool), SrcT X.K H1 v n xs ∧ (∀ i u, i < n → RelV (xs i) u → QV X σ H1 P scope x u elt (.bl (f i))) ∧ R n f H1)
    (hQ : ∀ n f H1 g s5, R n f H1 → RdyG X pins σ H1 n f g s5 → Q' (.ref g) s5) :
    wpAny (model X.prog X.w) X.A (eval (.GeneratorExp elt [⟨.Tuple [.Name xa pa, .Name x px] kt pt, iter, [], 0⟩] scope gpos) X.env) Q' X.xe s := by
  refine wpAny_GeneratorExp_walksQTD hr.hd S.co (closure_ok S.free) S.cell S.dot hxa S.loc hab S.kind hr.depth ?_ hs
  refine thn (hi.run pins s σ H _ I h) fun xv s1 ⟨v, H1, I1, r1, hT, n, xs, f, hsrc, hel, hR⟩ => ?_
  refine src_iterT hsrc I1 r1 hT fun o fp Pf St Mid hPf hW hsz2 hst hfp => ?_
  obtain ⟨ps, hPs, ht⟩ := hT.of_ok I1.hok
  have hPlt : P < s1.heap.objs.size := Heap.lt_size hPs
  have hP2 : (s1.heap.push o).get? P = some { cls := .none, data := .fields ps } := Heap.get?_push_of_some _ hPs
  have cd : PySem.W.CodeHd (s1.heap.push o) c P := TB.code.keeps fun b u e => Heap.get?_push_of_some _ (I1.bk b u e)
  have lim2 : (s1.heap.push o).NoLimit := I1.nolimit.push o
  have hcP : cStatics ≠ P := fun e => by
    obtain ⟨_, ⟨o', es, ep, ho, hd, _⟩, _⟩ := I1.nolimit
    rw [e, hPs] at ho
    cases ho
    cases hd
  have hcl : cStatics < s1.heap.objs.size := let ⟨_, hns, _⟩ := I1.nolimit; hns.lt
  have sz2 : (s1.heap.push o).objs.size = s1.heap.objs.size + 1 := Heap.size_push ..
  have nTb : ∀ b, H1 b = none → b ≠ P := fun b e z => by
    rw [z, hT] at e
    cases e
  -- what is left once the code object is known
  have go : ∀ (code : Value) (h3 : Heap) (tk : Nat) (ps' : Array Value), Heap.ExtBut P (s1.heap.push o) h3 → (s1.heap.push o).objs.size ≤ h3.objs.size → h3.get? P = some { cls := .none, data := .fields ps' } → TriplesOk ps'.toList →
      wpAny (model X.prog X.w) X.A (builtinsFor X.env.globals X.env.builtins) (fun bi s₄ => ∃ I fp wr n₀ Pg St₀ Mid pz F, Value.ref s1.heap.objs.size = .ref I ∧ (∀ A' : Around, A'.handled = none → WalksU X.prog X.w A' I fp wr n₀ Pg St₀ Mid) ∧ (∀ i vals, Pg i vals → ∃ va vb, vals = #[va, vb]) ∧ St₀ 0 s₄.heap ∧ (∀ b ∈ fp, b < s₄.heap.objs.size) ∧ s₄.heap.NoLimit ∧ cStatics ∉ wr ∧
          (∀ href : Heap, (∀ b o, s₄.heap.get? b = some o → href.get? b = some o) → QuietGenTD X.prog X.w (genEnv scope (cloFrom X.env.cells scope.names []) s₄.heap.objs.size code bi X.env) xa x [] elt (List.range s₄.heap.objs.size) wr Pg pz F href (X.A.depth + 1) (X.A.units + 8)) ∧
          (∀ a h₅ tk gs, gs.bare = true → s₄.heap.objs.size < a → h₅.objs.size = a + 1 → (∀ b o, s₄.heap.get? b = some o → h₅.get? b = some o) →
            WalksS X.prog X.w X.A.in4 a (a :: s₄.heap.objs.size :: List.range s₄.heap.objs.size) (s₄.heap.objs.size :: wr) (GenOnlyQ s₄.gens.size) (passing pz n₀ 0).length (fun j y => ∃ i, (passing pz n₀ 0)[j]? = some i ∧ F i y) (GenAt X.prog X.w X.A.in4 a s₄.gens.size s₄.heap.objs.size (List.range s₄.heap.objs.size) wr pz n₀ F) →
            GenAt X.prog X.w X.A.in4 a s₄.gens.size s₄.heap.objs.size (List.range s₄.heap.objs.size) wr pz n₀ F 0 { s₄ with gens := s₄.gens.push gs, toks := tk, heap := h₅ } →
            Q' (.ref a) { s₄ with gens := s₄.gens.push gs, toks := tk, heap := h₅ })) X.xe { s1 with heap := h3, toks := tk } := by
    intro code h3 tk ps' hx hsz hP3 ht3
    obtain ⟨bm, ob, e1, e2, e3, e4, e5, e6, e7, e8⟩ := TB.bm
    have keep3 : ∀ b u, b ≠ P → s1.heap.get? b = some u → h3.get? b = some u := fun b u hb e => hx b u hb (Heap.get?_push_of_some _ e)
    refine wpAny_builtinsFor (m := X.mg) (by rw [I1.ok.glob]; exact ((I1.mod.glob.keeps I1.bk).push o).extBut hx TB.gP) e1 e2 (keep3 _ _ e4 (I1.bk _ _ e5)) e6 e7 e8 ?_
    have hsz3 : s1.heap.objs.size < h3.objs.size := by omega
    refine ⟨s1.heap.objs.size, fp, [s1.heap.objs.size], n, Pf, St, Mid, fun _ => true, fun i y => y = .bool (f i), rfl, hW, hsz2, ?_, fun b hb => Nat.lt_of_le_of_lt (hfp b hb).1 hsz3, lim2.extBut hx hcP, ?_, ?_, ?_⟩
    · exact (hW X.A hr.hd).frame _ _ _ hst fun b hb u e => hx b u (hfp b hb).2 e
    · intro z
      rw [List.mem_singleton.mp z] at hcl
      exact Nat.lt_irrefl _ hcl
    · intro href hhref
      refine ⟨fun A' E' i va v s₂ m₂ hA hD hU hPv hn hma hm hk => ?_, fun A' E' i va v s₂ m₂ hA hD hU hPv hp hn hma hm hk => ?_⟩
      · simp only [List.forIn_nil]
        exact wpAny_pure ⟨rfl, kp_refl _⟩
      · have kept : ∀ b u, b ≠ P → s1.heap.get? b = some u → s₂.heap.get? b = some u := fun b u hb e => by
          have hlt := Heap.lt_size e
          refine hk b (List.mem_range.mpr ?_) (fun z => ?_) u (hhref b u (keep3 b u hb e))
          · show b < h3.objs.size
            exact Nat.lt_trans hlt hsz3
          · rw [List.mem_singleton.mp z] at hlt
            exact Nat.lt_irrefl _ hlt
        refine wpAny_mono (hel i v (hPf i va v hPv).1 (hPf i va v hPv).2 _ A' E' s₂ m₂ ⟨hA, hD, hU, rfl, I1.ok.glob, rfl, hn, hm, fun b u e => kept b u (nTb b (I1.bs b u e).2) (I1.bk b u e), I1.mod, fun b u e => ?_, fun j y w hN hσ hv hfr => ?_⟩) (fun y s3 r => ⟨r.1, r.2⟩) fun _ _ e => e
        · have hb : b ≠ P := fun z => by
            rw [z] at e
            unfold but at e
            rw [if_pos rfl] at e
            cases e
          rw [but_ne hb] at e
          refine (I1.hok b u e).stay (fun d w hd q => kept d w ?_ q) (fun d q => ?_) fun d ys q => ?_
          · rcases hd with z | z
            · rw [z]
              exact hb
            · intro e2
              rw [e2, hT] at z
              cases z
          · rw [but_ne fun e2 => by rw [e2, hT] at q; cases q]
            exact q
          · rw [but_ne fun e2 => by rw [e2, hT] at q; cases q]
            exact q
        · obtain ⟨m, hn1, hl⟩ := I1.loc
          obtain ⟨r, rv, l⟩ := hl j y w hN hσ (hv.elim (fun z => Or.inr (Or.inl z)) (fun z => Or.inr (Or.inr z)))
          rcases l with ⟨z, _⟩ | ⟨_, cc, hc, oc, he, hd⟩
          · rcases hv with z2 | z2
            · rw [z] at z2; cases z2
            · rw [z] at z2; cases z2
          · exact ⟨r, cc, rv, clo_lookup (lookup_mem' hfr) hc, oc, kept cc oc (nTb cc (I1.freeC y cc hc)) he, hd⟩
    · intro g h5 tk5 gs hgb hag hsz5 hk5 W5 hat
      simp only [GxR.passing_true, List.length_range] at W5
      refine hQ n f H1 g _ hR ⟨_, _, _, _, _, W5.in4_1, hat, fun j y sj Qj Ej hy hQj => ?_, fun s' hm => ?_⟩
      · obtain ⟨i, hij, rfl⟩ := hy
        obtain ⟨hj, ej⟩ := List.getElem?_eq_some_iff.mp hij
        rw [List.getElem_range] at ej
        subst ej
        exact wpAny_truthy_bool hQj
      · have nwr : ∀ b u, s1.heap.get? b = some u → b ∉ h3.objs.size :: [s1.heap.objs.size] := fun b u e hb => by
          have hl := Heap.lt_size e
          rcases List.mem_cons.mp hb with z | z
          · rw [z] at hl
            exact Nat.lt_irrefl _ (Nat.lt_trans hl hsz3)
          · rw [List.mem_singleton.mp z] at hl
            exact Nat.lt_irrefl _ hl
        exact inv_grown I1 hT (fun b u hb e => hm.heap b u (nwr b u e) (hk5 b u (keep3 b u hb e))) ⟨ps', hm.heap P _ (nwr P _ hPs) (hk5 P _ hP3), ht3⟩ hm.os (AllBare.movedS (I1.bare.push hgb) hm)
  refine ⟨lim2, ?_⟩
  cases hf : codeAmong gpos ps.toList with
  | some cv => exact wpAny_genexprCode_hit hcode (cd.code hP2 ht) hf (go cv (s1.heap.push o) s1.toks ps (Heap.ExtBut.refl _ _) (Nat.le_refl _) hP2 ht)
  | none =>
    refine wpAny_genexprCodeX hcode (cd.code hP2 ht) (cd.tab hP2) hf fun c' h' tk hx hge hlt hco' _ htab' _ => ?_
    obtain ⟨_, _, _, _, _, _, _, _, _, _, _, _, _, _, _, _, _, _, _, htr, _⟩ := hco'
    exact go _ h' tk _ hx (Nat.le_trans hge (Nat.le_of_lt hlt)) htab'.2 htr
def tGenT (X : Cx) (P : Addr) (scope : Scope) (x : Str) (elt : Expr) (fin : Nat → (Nat → Bool) → Bool) (te : TE) : TE := fun σ H Q => te σ H fun v H1 => Tab H1 P ∧ ∃ (n : Nat) (xs : Nat → V) (f : Nat → Bool), SrcT X.K H1 v n xs ∧ (∀ i u, i < n → RelV (xs i) u → QV X σ H1 P scope x u elt (.bl (f i))) ∧ Q (.bl (fin n f)) H1
theorem pe_allT {c P : Addr} {elt iter : Expr} {xa x : Str} {pa px pt p pos gpos : Pos} {kt : Nat} {scope : Scope} {te : TE} {k : Nat} (hr : Room k X.A) (hg : Gl X "all") (hm : X.mg "all" = none) (hb : bootBuiltins "all" = some (.builtin "all")) (TB : LamX.TabB X.base X.mg c P) (hcode : X.env.code = .ref c) (S : GxR.GenS X.env scope x) (hxa : scope.names.lookup xa = some .local) (hab : xa ≠ x)
    (hi : PE X iter te) (hs : ∀ v, genFold iter X.env v = pure v)
    (he : starEach [.GeneratorExp elt [⟨.Tuple [.Name xa pa, .Name x px] kt pt, iter, [], 0⟩] scope gpos] X.env = (false, eval (.GeneratorExp elt [⟨.Tuple [.Name xa pa, .Name x px] kt pt, iter, [], 0⟩] scope gpos) X.env) :: starEach [] X.env := by rfl) :
    PE X (.Call (.Name "all" p) [.GeneratorExp elt [⟨.Tuple [.Name xa pa, .Name x px] kt pt, iter, [], 0⟩] scope gpos] [] pos) (tGenT X P scope x elt allF te) := by
  refine ⟨fun pins s σ H Q I h => wpAny_Call_Name_kw (ld_blt I hg hm hb (PyProof.Rows.callWith_builtin1 ?_ he (by rfl)))⟩
  rw [he]
  show wpAny _ _ (spliced ((false, eval (.GeneratorExp elt [⟨.Tuple [.Name xa pa, .Name x px] kt pt, iter, [], 0⟩] scope gpos) X.env) :: backTo pos (starEach [] X.env))) _ _ s
  refine Calls.spliced_cons (gen_makeT (R := fun n f H1 => Q (.bl (allF n f)) H1) hr TB hcode S hxa hab hi hs I h fun n f H1 g s5 hR ⟨fp, wr, G, F, St₁, W, hst, htr, hI⟩ => Calls.spliced_nil ?_)
  exact call_all_walkS (W.self 0 _ _ _ hst ⟨g, fp, wr, G, _, F, St₁, _, rfl, W, hst, htr, fun s' hmv => ⟨.bl _, H1, hI s' hmv, rfl, hR⟩⟩)
end
section
variable {X : Cx}
theorem cr_range1 : CallR X (.type "range") (fun vs H Q => ∃ i, vs = [V.int i] ∧ ∀ p, H p = none → Q (.ref p) (upd H p (.rng 0 i))) := by
  intro pins s σ H vs us Q I r h
  obtain ⟨i, rfl, q⟩ := h
  cases r with
  | cons ri rn =>
    cases rn
    obtain ⟨t, rfl⟩ := ri
    refine call_range_1 ⟨.ref s.heap.objs.size, upd H s.heap.objs.size (.rng 0 i), I.laid (t' := _) (fun b o e => Heap.get?_push_of_some _ e) (Nat.le_refl _) ?_, rfl, q _ (I.hok.fresh (Nat.le_refl _))⟩
    exact ⟨_, _, _, Heap.get?_push_size _ rfl⟩
end
section
variable {K : PySem.W.Frag} {σ : L2.St} {H : Hp} {ta tb tc te : TE}
theorem ev_chain {f g : Int → Int → Bool} {i j k : Int} (ha : Ev ta σ H (.int i)) (hb : Ev tb σ H (.int j)) (hc : Ev tc σ H (.int k)) : Ev (tChain (rI0 fun i j => .bl (f i j)) (rI0 fun i j => .bl (g i j)) ta tb tc) σ H (.bl (f i j && g j k)) := fun H1 e Q q =>
  ha H1 e _ fun H2 e2 => hb H2 (e.trans e2) _ fun H3 e3 => ⟨i, j, rfl, rfl, f i j, rfl, by
    cases hf : f i j with
    | true =>
      rw [if_pos rfl]
      refine hc H3 ((e.trans e2).trans e3) _ fun H4 e4 => ⟨j, k, rfl, rfl, ?_⟩
      have := q H4 ((e2.trans e3).trans e4)
      rw [hf] at this
      exact this
    | false =>
      rw [if_neg Bool.false_ne_true]
      have := q H3 (e2.trans e3)
      rw [hf] at this
      exact this⟩
variable {X : Cx} {P : Addr} {scope : Scope} {x : Str} {elt : Expr} {fin : Nat → (Nat → Bool) → Bool}
/-- a generator expression over range(n) -/
theorem ev_genR {n : Int} {f : Nat → Bool} (h : Ev te σ H (.int n)) (hb : -(2 ^ 62) ≤ n ∧ n < 2 ^ 62) (hT : Tab H P) (he : ∀ H1, Ex H H1 → ∀ (i : Nat) u, (i : Int) < n → RelV (.int (i : Int)) u → QV X σ H1 P scope x u elt (.bl (f i))) :
    Ev (tGen X P scope x elt fin (tCB (fun vs H Q => ∃ i, vs = [V.int i] ∧ ∀ p, H p = none → Q (.ref p) (upd H p (.rng 0 i))) (tCons te tNil))) σ H (.bl (fin n.toNat f)) := fun H1 e Q q =>
  h H1 e _ fun H2 e2 => ⟨n, rfl, fun p hp => by
    have e3 := Ex.new (o := HO.rng 0 n) hp
    refine ⟨((hT.mono e).mono e2).mono e3, n.toNat, fun i => .int (0 + (i : Int)), f, .inr (.inr ⟨p, 0, n, rfl, upd_same, by rw [Int.sub_zero], by decide, by decide, hb.1, hb.2, fun i => rfl⟩), fun i u hi hu => he _ ((e.trans e2).trans e3) i u (by omega) (by have hu2 : RelV (.int (0 + (i : Int))) u := hu; rw [Int.zero_add] at hu2; exact hu2), q _ (e2.trans e3)⟩⟩
/-- a generator expression over a new list -/
theorem ev_genL {xs : List V} {f : Nat → Bool} (h : EvL te σ H xs) (hT : Tab H P) (he : ∀ H1, Ex H H1 → ∀ i u, i < xs.length → RelV (xs.getD i .non) u → QV X σ H1 P scope x u elt (.bl (f i))) :
    Ev (tGen X P scope x elt fin te) σ H (.bl (fin xs.length f)) := fun H1 e Q q =>
  h H1 e _ fun p H2 hp e2 h2 => ⟨hT.mono (e.trans e2), xs.length, fun i => xs.getD i .non, f, .inl ⟨p, xs, rfl, sq_of h2, rfl, fun i => rfl⟩, fun i u hi hu => he H2 (e.trans e2) i u hi hu, q H2 e2⟩
/-- over a list of pairs -/
theorem ev_genT {v : V} {n : Nat} {xs : Nat → V} {f : Nat → Bool} (h : Ev te σ H v) (hT : Tab H P) (hs : ∀ H1, Ex H H1 → SrcT X.K H1 v n xs) (he : ∀ H1, Ex H H1 → ∀ i u, i < n → RelV (xs i) u → QV X σ H1 P scope x u elt (.bl (f i))) :
    Ev (tGenT X P scope x elt fin te) σ H (.bl (fin n f)) := fun H1 e Q q => h H1 e _ fun H2 e2 => ⟨hT.mono (e.trans e2), n, xs, f, hs H2 (e.trans e2), he H2 (e.trans e2), q H2 e2⟩
/-- tuple(new list) -/
theorem eu_tupL {xs : List V} (h : EvL te σ H xs) : EvU (tCB (fun zs H Q => ∃ p ys, zs = [.ref p] ∧ ((SqL K H p ys ∧ ∀ l, H l = none → Q (.ref l) (upd H l (.tup ys))) ∨ (SqT K H p ys ∧ Q (.ref p) H))) (tCons te tNil)) σ H xs := fun H1 e Q q =>
  h H1 e _ fun p H2 hp e2 h2 => ⟨p, xs, rfl, .inl ⟨sq_of h2, fun l hl => q l _ (fresh_back e2 hl) (e2.trans (Ex.new hl)) upd_same⟩⟩
end
end LN

set_option Elab.async false
set_option linter.all false
set_option maxRecDepth 100000
set_option maxHeartbeats 4000000
namespace LP
open PySem PySem.Spec PyProof.Rows L2 Evl LT LG LS LX LO
/-! ### comprehensions whose elements are new objects: R i (those before) y heap -/
abbrev Rel := Nat → List V → V → Hp → Prop
def Mon (R : Rel) : Prop := ∀ i xs y H H', Ex H H' → R i xs y H → R i xs y H'
def EvR (te : TE) (σ : L2.St) (H : Hp) (n : Nat) (R : Rel) : Prop := ∀ H1, Ex H H1 → ∀ Q : VK, (∀ L xs H2, H1 L = none → Ex H1 H2 → H2 L = some (.lst xs) → xs.length = n → (∀ i y, xs[i]? = some y → R i (xs.take i) y H2) → Q (.ref L) H2) → te σ H1 Q
theorem but_ex {D : Addr} {H : Hp} : Ex (but D H) H := fun a o h => by
  unfold but at h
  split at h
  · cases h
  · exact h
theorem ex_but {D : Addr} {H H' : Hp} (e : Ex H H') : Ex (but D H) (but D H') := fun a o h => by
  unfold but at h ⊢
  split at h
  · cases h
  · rename_i n
    rw [if_neg n]
    exact e a o h
theorem but_upd {D : Addr} {H : Hp} {o : HO} : but D (upd H D o) = but D H := funext fun a => by
  unfold but
  split
  · rfl
  · rename_i n
    exact upd_ne n
/-- what is new later than D -/
theorem but_new {D l : Addr} {H2 H3 : Hp} {o : HO} (hD : H2 D ≠ none) (hl : H2 l = none) (h : H3 l = some o) : but D H3 l = some o := by
  rw [but_ne (fun e => hD (by rw [← e]; exact hl))]
  exact h
/-- what stood before D -/
theorem but_old {D l : Addr} {H H3 : Hp} {o : HO} (hD : H D = none) (h : H l = some o) (e : Ex H H3) : but D H3 l = some o := by
  rw [but_ne (fun z => by rw [z, hD] at h; cases h)]
  exact e _ _ h
def Cr (H : Hp) (R : Rel) (D : Addr) (i : Nat) (H' : Hp) : Prop := H D = none ∧ Ex H H' ∧ ∃ xs, H' D = some (.lst xs) ∧ xs.length = i ∧ ∀ j y, xs[j]? = some y → R j (xs.take j) y (but D H')
theorem cr_turn {H H' : Hp} {R : Rel} {D : Addr} {i : Nat} {te : TE} {σ2 : L2.St} (mon : Mon R) (p : Cr H R D i H') (hi : i < 50000)
    (he : H' D ≠ none → ∀ xs : List V, xs.length = i → (∀ j y, xs[j]? = some y → R j (xs.take j) y (but D H')) → ∀ Q : VK, (∀ y H3, Ex H' H3 → R i xs y (but D H3) → Q y H3) → te σ2 H' Q) :
    tYes σ2 H' fun b H3 => if b = true then te σ2 H3 fun y H4 => ∃ acc, H4 D = some (.lst acc) ∧ acc.length < sizeLine ∧ Cr H R D (i + 1) (upd H4 D (.lst (acc ++ [y]))) else Cr H R D (i + 1) H3 := by
  obtain ⟨p1, p2, xs, p3, p4, p5⟩ := p
  show te σ2 H' fun y H4 => ∃ acc, H4 D = some (.lst acc) ∧ acc.length < sizeLine ∧ Cr H R D (i + 1) (upd H4 D (.lst (acc ++ [y])))
  refine he (by rw [p3]; exact fun e => by cases e) xs p4 p5 _ fun y H4 e4 r => ⟨xs, e4 _ _ p3, sz_lt (by omega), p1, (p2.trans e4).mut p1, xs ++ [y], upd_same, by simp [p4], fun j z hz => ?_⟩
  rw [but_upd]
  by_cases hj : j < xs.length
  · rw [List.getElem?_append_left hj] at hz
    rw [List.take_append_of_le_length (Nat.le_of_lt hj)]
    exact mon _ _ _ _ _ (ex_but e4) (p5 j z hz)
  · have hj2 : j = xs.length := by
      have := (List.getElem?_eq_some_iff.mp hz).1
      simp at this
      omega
    subst hj2
    rw [List.getElem?_append_right (Nat.le_refl _), Nat.sub_self] at hz
    cases hz
    rw [List.take_left', ← p4] at *
    · rw [p4]; rw [p4] at r; exact r
    · rfl
section
variable {K : PySem.W.Frag} {σ : L2.St} {H : Hp} {R : Rel} {te tl : TE} {vs : List Nat} {j j2 : Nat}
theorem er_R1 {ta : TA} {n : Int} (h : EvA ta σ H [.int n]) (hn : 0 ≤ n ∧ n ≤ 40000) (hw : ∀ x, wipe ((wipe σ vs).set j (some x)) vs = wipe σ vs) (mon : Mon R)
    (he : ∀ (i : Nat) D H1, H D = none → Ex H H1 → H1 D ≠ none → (i : Int) < n → ∀ xs : List V, xs.length = i → (∀ j y, xs[j]? = some y → R j (xs.take j) y (but D H1)) → ∀ Q : VK, (∀ y H3, Ex H1 H3 → R i xs y (but D H3) → Q y H3) → te ((wipe σ vs).set j (some (.int (i : Int)))) H1 Q) :
    EvR (tLc (iRng1 ta) (gName j) tYes te vs) σ H n.toNat R := fun H0 e Q q => h H0 e _ fun H1 e1 => ⟨n, rfl, by omega, by omega, fun Dl hD =>
  lc_range (lo := 0) (n := n.toNat) (Cr H1 R Dl) ⟨hD, Ex.new hD, [], upd_same, rfl, fun j y hy => by simp at hy⟩ (fun i H' hi p => by
    have e0 : (0 : Int) + (i : Int) = (i : Int) := Int.zero_add _
    rw [e0]
    exact ⟨hw _, cr_turn mon p (by omega) (fun h1 xs h2 h3 => he i Dl H' (fresh_back (e.trans e1) hD) ((e.trans e1).trans p.2.1) h1 (by omega) xs h2 h3)⟩)
    (fun H' ⟨p1, p2, xs, p3, p4, p5⟩ => q Dl xs H' (fresh_back e1 p1) (e1.trans p2) p3 p4 fun i y hy => mon _ _ _ _ _ but_ex (p5 i y hy))⟩
theorem er_L {a : Addr} {ys : List V} (h : Ev tl σ H (.ref a)) (hx : SqL K H a ys) (hz : ys.length ≤ 40000) (hw : ∀ x, wipe ((wipe σ vs).set j (some x)) vs = wipe σ vs) (mon : Mon R)
    (he : ∀ (i : Nat) (x : V) D H1, H D = none → Ex H H1 → H1 D ≠ none → ys[i]? = some x → ∀ xs : List V, xs.length = i → (∀ j y, xs[j]? = some y → R j (xs.take j) y (but D H1)) → ∀ Q : VK, (∀ y H3, Ex H1 H3 → R i xs y (but D H3) → Q y H3) → te ((wipe σ vs).set j (some x)) H1 Q) :
    EvR (tLc (iList K tl) (gName j) tYes te vs) σ H ys.length R := fun H0 e Q q => h H0 e _ fun H1 e1 => ⟨a, rfl, ⟨ys, ex_l (e.trans e1) hx⟩, fun Dl hD =>
  lc_list (xs := ys) (Cr H1 R Dl) ⟨hD, Ex.new hD, [], upd_same, rfl, fun j y hy => by simp at hy⟩ (fun i H' _ p => ex_l ((e.trans e1).trans p.2.1) hx)
    (fun i x H' hi p => ⟨hw x, cr_turn mon p (by have := (List.getElem?_eq_some_iff.mp hi).1; omega) (fun h1 xs h2 h3 => he i x Dl H' (fresh_back (e.trans e1) hD) ((e.trans e1).trans p.2.1) h1 hi xs h2 h3)⟩)
    (fun H' ⟨p1, p2, xs, p3, p4, p5⟩ => q Dl xs H' (fresh_back e1 p1) (e1.trans p2) p3 p4 fun i y hy => mon _ _ _ _ _ but_ex (p5 i y hy))⟩
/-- over a list of pairs -/
theorem er_L2 {a : Addr} {ys : List V} (h : Ev tl σ H (.ref a)) (hx : SqL K H a ys) (hz : ys.length ≤ 40000) (hw : ∀ x y, wipe (((wipe σ vs).set j (some x)).set j2 (some y)) vs = wipe σ vs) (mon : Mon R)
    (he : ∀ (i : Nat) (x : V) D H1, H D = none → Ex H H1 → H1 D ≠ none → ys[i]? = some x → ∃ t u v, x = .ref t ∧ SqT K H1 t [u, v] ∧ ∀ xs : List V, xs.length = i → (∀ j y, xs[j]? = some y → R j (xs.take j) y (but D H1)) → ∀ Q : VK, (∀ y H3, Ex H1 H3 → R i xs y (but D H3) → Q y H3) → te (((wipe σ vs).set j (some u)).set j2 (some v)) H1 Q) :
    EvR (tLc (iList K tl) (gTup K 2 (gCons (gName j) (gCons (gName j2) gNil))) tYes te vs) σ H ys.length R := fun H0 e Q q => h H0 e _ fun H1 e1 => ⟨a, rfl, ⟨ys, ex_l (e.trans e1) hx⟩, fun Dl hD =>
  lc_list (xs := ys) (Cr H1 R Dl) ⟨hD, Ex.new hD, [], upd_same, rfl, fun j y hy => by simp at hy⟩ (fun i H' _ p => ex_l ((e.trans e1).trans p.2.1) hx)
    (fun i x H' hi p => by
      have h1 : H' Dl ≠ none := by
        obtain ⟨_, _, xs, p3, _⟩ := p
        rw [p3]
        exact fun e => by cases e
      obtain ⟨t, u, v, rfl, hT, k⟩ := he i x Dl H' (fresh_back (e.trans e1) hD) ((e.trans e1).trans p.2.1) h1 hi
      exact ⟨t, [u, v], rfl, hT, rfl, u, [v], rfl, v, [], rfl, rfl, hw u v, cr_turn mon p (by have := (List.getElem?_eq_some_iff.mp hi).1; omega) fun _ xs' h2 h3 => k xs' h2 h3⟩)
    (fun H' ⟨p1, p2, xs, p3, p4, p5⟩ => q Dl xs H' (fresh_back e1 p1) (e1.trans p2) p3 p4 fun i y hy => mon _ _ _ _ _ but_ex (p5 i y hy))⟩
end
/-! ### a list of known items, new or not -/
def EvF (te : TE) (σ : L2.St) (H : Hp) (xs : List V) : Prop := ∀ H1, Ex H H1 → ∀ Q : VK, (∀ p H2, Ex H1 H2 → H2 p = some (.lst xs) → Q (.ref p) H2) → te σ H1 Q
def fset (f : Nat → List Int) (s : Nat) (v : List Int) : Nat → List Int := fun x => if x = s then v else f x
def Z8 : List Int := [0, 0, 0, 0, 0, 0, 0, 0]
/-- a dict from sectors to lists of words -/
def Dz (H : Hp) (d : Addr) (n : Nat) (f : Nat → List Int) : Prop := ∃ kvs : List (Key × V), H d = some (.dK kvs) ∧ kvs.length ≤ n ∧ ∀ s : Nat, (valV kvs (.inl (s : Int)) = none ∧ f s = Z8) ∨ ∃ l, valV kvs (.inl (s : Int)) = some (.ref l) ∧ H l = some (.lst ((f s).map V.int))
theorem cut_lo (xs : List V) (n : Nat) : cutV xs none (some (n : Int)) = xs.take n := by
  unfold cutV
  rw [HT.sIx_none, HT.sIx_nat, List.drop_zero, Nat.sub_zero, List.take_eq_take_iff]
  omega
theorem cut_hi (xs : List V) (n : Nat) : cutV xs (some (n : Int)) none = xs.drop n := by
  unfold cutV
  rw [HT.sIx_none, HT.sIx_nat, List.take_of_length_le (by rw [List.length_drop]; omega)]
  by_cases h : n ≤ xs.length
  · rw [Nat.min_eq_left h]
  · rw [Nat.min_eq_right (by omega), List.drop_eq_nil_of_le (Nat.le_refl _), List.drop_eq_nil_of_le (by omega)]
section
variable {K : PySem.W.Frag} {σ : L2.St} {H H' : Hp} {ta tb te td tk tx : TE} {v : V} {xs ys : List V} {d : Addr} {n s : Nat} {f : Nat → List Int} {D : Ends} {tz : TS}
theorem el_f (h : EvL te σ H xs) : EvF te σ H xs := fun H1 e Q q => h H1 e Q fun p H2 _ e2 h2 => q p H2 e2 h2
theorem Dz.ex (D : Dz H d n f) (e : Ex H H') : Dz H' d n f := by
  obtain ⟨kvs, h, hl, hs⟩ := D
  exact ⟨kvs, e _ _ h, hl, fun s => (hs s).imp id fun ⟨l, a, b⟩ => ⟨l, a, e _ _ b⟩⟩
theorem Dz.le (D : Dz H d n f) {m : Nat} (h : n ≤ m) : Dz H d m f := by
  obtain ⟨kvs, h1, hl, hs⟩ := D
  exact ⟨kvs, h1, Nat.le_trans hl h, hs⟩
theorem ef_get (hd : Ev td σ H (.ref d)) (hD : Dz H d n f) (hk : Ev tk σ H (.int (s : Int))) (hx : EvL tx σ H (Z8.map V.int)) : EvF (tDGet2 td tk tx) σ H ((f s).map V.int) := fun H1 e Q q => by
  obtain ⟨kvs, h, _, hs⟩ := hD
  refine hd H1 e _ fun H2 e2 => ⟨d, rfl, .inl ⟨kvs, .inl (e2 _ _ (e _ _ h))⟩, hk H2 (e.trans e2) _ fun H3 e3 => hx H3 ((e.trans e2).trans e3) _ fun p H4 hp e4 h4 => ?_⟩
  have e14 := (e2.trans e3).trans e4
  rcases hs s with ⟨hn, hf⟩ | ⟨l, hv, hl⟩
  · refine ⟨none, ?_, ?_⟩
    · rw [← hn]
      exact DGet.k (k := Sum.inl (s : Int)) (e14 _ _ (e _ _ h))
    · rw [hf] at q
      exact q p H4 e14 h4
  · refine ⟨some (.ref l), ?_, q l H4 e14 (e14 _ _ (e _ _ hl))⟩
    rw [← hv]
    exact DGet.k (k := Sum.inl (s : Int)) (e14 _ _ (e _ _ h))
theorem q_asgF {i : Nat} (h : EvF te σ H xs) (k : ∀ p H1, Ex H H1 → H1 p = some (.lst xs) → tz D (σ.set i (some (.ref p))) H1) : tSeq (tAsg te (gName i)) tz D σ H := h H (Ex.refl H) _ fun p H1 e h1 => k p H1 e h1
/-- list(an evaluated list) -/
theorem el_listF (h : EvF te σ H xs) : EvL (tCB (rListS K) (tCons te tNil)) σ H xs := fun H1 e Q q =>
  h H1 e _ fun p H2 e2 h2 => ⟨p, xs, rfl, Or.inl (sq_of h2), fun l hl => q l _ (fresh_back e2 hl) (e2.trans (Ex.new hl)) upd_same⟩
theorem q_dcopy {i : Nat} (hd : Ev td σ H (.ref d)) (hD : Dz H d n f) (k : ∀ p H1, H p = none → Ex H H1 → Dz H1 p n f → tz D (σ.set i (some (.ref p))) H1) :
    tSeq (tAsg (tCB (fun xs H Q => ∃ (a : Addr) (kvs : List (Key × V)), xs = [.ref a] ∧ Rd H a (.dK kvs) ∧ ∀ p, H p = none → Q (.ref p) (upd H p (.dK kvs))) (tCons td tNil)) (gName i)) tz D σ H := by
  obtain ⟨kvs, h, hl, hs⟩ := hD
  refine hd H (Ex.refl H) _ fun H1 e1 => ⟨d, kvs, rfl, .inl (e1 _ _ h), fun p hp => k p _ (fresh_back e1 hp) (e1.trans (Ex.new hp)) ⟨kvs, upd_same, hl, fun s => (hs s).imp id fun ⟨l, a, b⟩ => ⟨l, a, (e1.trans (Ex.new hp)) _ _ b⟩⟩⟩
theorem s_dputL {zs : List Int} (hv : EvL te σ H (zs.map V.int)) (hd : Ev td σ H (.ref d)) (hk : Ev tk σ H (.int (s : Int))) (hD : Dz H d n f) (hn : n < 100000) (k : ∀ H1 o, Ex H H1 → Dz (upd H1 d o) d (n + 1) (fset f s zs) → D.nx σ (upd H1 d o)) : sDPut td tk te D σ H := by
  obtain ⟨kvs, h, hl, hs⟩ := hD
  refine hv H (Ex.refl H) _ fun l H1 hl1 e1 h1 => hd H1 e1 _ fun H2 e2 => hk H2 (e1.trans e2) _ fun H3 e3 => ?_
  have e13 := (e1.trans e2).trans e3
  have h3 := e13 _ _ h
  have l3 := e3 _ _ (e2 _ _ h1)
  have hld : l ≠ d := ne_of l3 h3 (by intro z; cases z)
  refine ⟨d, _, rfl, DPut.k (k := Sum.inl (s : Int)) h3 (sz_lt (by omega)), k H3 _ e13 ⟨_, upd_same, Nat.le_trans (length_putK _ _ _) (by omega), fun j => ?_⟩⟩
  rw [valV_put]
  by_cases hj : j = s
  · subst hj
    rw [if_pos rfl]
    refine .inr ⟨l, rfl, ?_⟩
    rw [upd_ne hld, l3]
    unfold fset
    rw [if_pos rfl]
  · rw [if_neg (fun z => hj (by cases z; rfl))]
    have ef : fset f s zs j = f j := if_neg hj
    rw [ef]
    refine (hs j).imp id fun ⟨m, a, b⟩ => ⟨m, a, ?_⟩
    have b3 := e13 _ _ b
    rw [upd_ne (ne_of b3 h3 (by intro z; cases z))]
    exact b3
theorem el_catL (ha : EvL ta σ H xs) (hb : EvL tb σ H ys) (hz : xs.length + ys.length ≤ 100000) : EvL (tOp rCat ta tb) σ H (xs ++ ys) := fun H1 e Q q =>
  ha H1 e _ fun a H2 ha2 e2 h2 => hb H2 (e.trans e2) _ fun b H3 hb3 e3 h3 => ⟨a, b, xs, ys, rfl, rfl, e3 _ _ h2, h3, sz_of hz, fun p hp => q p _ (fresh_back (e2.trans e3) hp) ((e2.trans e3).trans (Ex.new hp)) upd_same⟩
theorem el_cat {l : Addr} (ha : Ev ta σ H (.ref l)) (hl : H l = some (.lst xs)) (hb : EvL tb σ H ys) (hz : xs.length + ys.length ≤ 100000) : EvL (tOp rCat ta tb) σ H (xs ++ ys) := fun H1 e Q q =>
  ha H1 e _ fun H2 e2 => hb H2 (e.trans e2) _ fun b H3 hb3 e3 h3 => ⟨l, b, xs, ys, rfl, rfl, e3 _ _ (e2 _ _ (e _ _ hl)), h3, sz_of hz, fun p hp => q p _ (fresh_back (e2.trans e3) hp) ((e2.trans e3).trans (Ex.new hp)) upd_same⟩
theorem el_rep1 {z : Int} (ha : EvL ta σ H [v]) (hb : Ev tb σ H (.int z)) (h0 : 0 ≤ z) (h1 : z ≤ 100000) : EvL (tOp rRep ta tb) σ H (List.replicate z.toNat v) := fun H1 e Q q =>
  ha H1 e _ fun a H2 ha2 e2 h2 => hb H2 (e.trans e2) _ fun H3 e3 => ⟨a, z, [v], rfl, rfl, e3 _ _ h2, by omega, by omega, sz_of (by simp; omega), fun p hp => by
    have := q p (upd H3 p (.lst (List.replicate z.toNat [v]).flatten)) (fresh_back (e2.trans e3) hp) ((e2.trans e3).trans (Ex.new hp))
    rw [show (List.replicate z.toNat [v]).flatten = List.replicate z.toNat v by
      induction z.toNat with
      | zero => rfl
      | succ k ih => rw [List.replicate_succ, List.flatten_cons, ih]; rfl] at this ⊢
    exact this upd_same⟩
theorem ev_min2 {i j : Int} (ha : Ev ta σ H (.int i)) (hb : Ev tb σ H (.int j)) : Ev (tCB (fun xs H Q => ∃ i j, xs = [.int i, .int j] ∧ Q (.int (if j < i then j else i)) H) (tCons ta (tCons tb tNil))) σ H (.int (if j < i then j else i)) := ev_cb (ea_cons ha (ea_cons hb ea_nil)) fun H1 e Q q => ⟨i, j, rfl, q H1 (Ex.refl H1)⟩
theorem er_asg {i : Nat} {R : Rel} (h : EvR te σ H n R) (k : ∀ L xs H1, H L = none → Ex H H1 → H1 L = some (.lst xs) → xs.length = n → (∀ i y, xs[i]? = some y → R i (xs.take i) y H1) → tz D (σ.set i (some (.ref L))) H1) : tSeq (tAsg te (gName i)) tz D σ H := h H (Ex.refl H) _ k
theorem er_ret {R : Rel} (h : EvR te σ H n R) (k : ∀ L xs H1, H L = none → Ex H H1 → H1 L = some (.lst xs) → xs.length = n → (∀ i y, xs[i]? = some y → R i (xs.take i) y H1) → D.rt (.ref L) H1) : tRet te D σ H := h H (Ex.refl H) _ k
end
/-! ### more statements -/
section
variable {K : PySem.W.Frag} {σ : L2.St} {H : Hp} {ta tb te : TE} {t : TA} {xs ys : List V} {l C p dx : Addr} {fs : List (Str × V)} {m : Str} {n : Nat} {D : Ends} {tz : TS}
theorem s_setLL {j : Nat} (hl : H l = some (.lst xs)) (h : EvL te σ H ys) (ho : Ev ta σ H (.ref l)) (hi : Ev tb σ H (.int (j : Int))) (hj : j < xs.length) (k : ∀ q H1, H q = none → Ex H H1 → H1 q = some (.lst ys) → D.nx σ (upd H1 l (.lst (xs.set j (.ref q))))) :
    tAsg te (gSub ta tb rSetL) D σ H := h H (Ex.refl H) _ fun q H1 hq e1 h1 => ho H1 e1 _ fun H2 e2 => hi H2 (e1.trans e2) _ fun H3 e3 => ⟨l, xs, (j : Int), j, rfl, rfl, ((e1.trans e2).trans e3) l _ hl, ixN_nat hj, k q H3 hq ((e1.trans e2).trans e3) (e3 _ _ (e2 _ _ h1))⟩
theorem q_fldR {R : Rel} (hv : EvR te σ H n R) (ha : Ev ta σ H (.ref p)) (hi : H p = some (.ins C dx fs)) (c : Cls K C) (nA : NoAttr K C m) (hz : fs.length < 1000) (k : ∀ L xs H1 H2, H L = none → Ex H H1 → Ex H1 H2 → H2 L = some (.lst xs) → xs.length = n → (∀ i y, xs[i]? = some y → R i (xs.take i) y H1) → tz D σ (upd H2 p (.ins C dx (putF m (.ref L) fs)))) : tSeq (sFld K ta te m) tz D σ H :=
  hv H (Ex.refl _) _ fun L xs H1 hL e1 h1 hn hr => ha H1 e1 _ fun H2 e2 => ⟨p, C, dx, fs, rfl, e2 _ _ (e1 _ _ hi), c, nA, hz, k L xs H1 H2 hL e1 e2 (e2 _ _ h1) hn hr⟩
theorem q_forZ {a b : Addr} {g : TG} {tu : TS} (h : EvA t σ H [.ref a, .ref b]) (hx : SqL K H a xs) (hy : SqL K H b ys) (Pv : Nat → L2.St → Hp → Prop) (h0 : ∀ H1, Ex H H1 → Pv 0 σ H1) (hl : ∀ i σ' H', Pv i σ' H' → SqL K H' a xs ∧ SqL K H' b ys)
    (hs : ∀ i x y T σ' H', xs[i]? = some x → ys[i]? = some y → Pv i σ' H' → H' T = none → g (.ref T) σ' (upd H' T (.tup [x, y])) fun σ2 H2 => tu { D with nx := Pv (i + 1), ct := Pv (i + 1), bk := tz D } σ2 H2) (hd : ∀ σ' H', Pv (min xs.length ys.length) σ' H' → tz D σ' H') : tSeq (tFor (iZip K t) g tu) tz D σ H :=
  h H (Ex.refl H) _ fun H1 e => ⟨a, b, xs, ys, rfl, ex_l e hx, ex_l e hy, for_it (D := { D with nx := tz D }) (walk_zip rfl) Pv (h0 H1 e) (fun i σ' H' _ p => hl i σ' H' p) (fun i v σ' H' H2 hi p y => by
    obtain ⟨T, x, z, rfl, hT, rfl, h1, h2⟩ := y
    exact hs i x z T σ' H' h1 h2 p hT) hd⟩
end
theorem refs_of : ∀ {xs : List V}, (∀ y ∈ xs, ∃ a, y = V.ref a) → ∃ ks : List Addr, xs = ks.map V.ref
  | [], _ => ⟨[], rfl⟩
  | x :: r, h => by
    obtain ⟨a, rfl⟩ := h x List.mem_cons_self
    obtain ⟨ks, e⟩ := refs_of fun y hy => h y (List.mem_cons_of_mem _ hy)
    exact ⟨a :: ks, by rw [e]; rfl⟩
/-- a method that is passed a new list -/
theorem mR_run {sp : Sp} {σ : L2.St} {H : Hp} {ta te : TE} {C p dx : Addr} {fs : List (Str × V)} {m : Str} {xs : List V} {D : Ends} {E : XK} (ha : Ev ta σ H (.ref p)) (hi : H p = some (.ins C dx fs)) (hl : fs.lookup m = none) (ht : EvL te σ H xs) (k : ∀ c H1, H c = none → Ex H H1 → H1 c = some (.lst xs) → sp [.ref p, .ref c] H1 (fun _ H2 => D.nx σ H2) E) : tDrop (tMeth C m sp [] E ta (tCons te tNil)) D σ H :=
  ha H (Ex.refl _) _ fun H2 e2 => ⟨p, dx, fs, rfl, e2 _ _ hi, hl, ht H2 e2 _ fun c H3 hc e3 h3 => k c H3 (fresh_back e2 hc) (e2.trans e3) h3⟩
section
variable {K : PySem.W.Frag} {σ : L2.St} {H : Hp} {ta tb te t1 : TE} {t : TA} {v : V} {xs ys vs : List V} {C p dx a : Addr} {fs : List (Str × V)} {m : Str} {sp : Sp} {D : Ends} {tz : TS}
theorem ev_int1 {i : Int} (h : Ev te σ H (.int i)) : Ev (tCB (fun xs H Q => (∃ i, xs = [V.int i] ∧ Q (V.int i) H) ∨ ∃ k : Bool, xs = [V.bl k] ∧ Q (V.int (if k then 1 else 0)) H) (tCons te tNil)) σ H (.int i) := ev_cb (ea_cons h ea_nil) fun H1 _ Q q => .inl ⟨i, rfl, q _ (Ex.refl _)⟩
theorem ef_var (h : Ev te σ H (.ref a)) (ha : H a = some (.lst xs)) : EvF te σ H xs := fun H1 e Q q => h H1 e _ fun H2 e2 => q a H2 e2 (e2 _ _ (e _ _ ha))
theorem ef_is (h : EvF te σ H xs) (e : xs = ys) : EvF te σ H ys := e ▸ h
theorem el_meth {E : XK} (ha : Ev ta σ H (.ref p)) (hi : H p = some (.ins C dx fs)) (hl : fs.lookup m = none) (ht : EvA t σ H vs) (hs : SpL sp (.ref p :: vs) H xs) : EvL (tMeth C m sp [] E ta t) σ H xs := fun H1 e Q q =>
  ha H1 e _ fun H2 e2 => ⟨p, dx, fs, rfl, e2 _ _ (e _ _ hi), hl, ht H2 (e.trans e2) _ fun H3 e3 => by
    rw [List.append_nil]
    exact hs H3 ((e.trans e2).trans e3) Q (fun l H4 hl e4 h4 => q l H4 (fresh_back (e2.trans e3) hl) ((e2.trans e3).trans e4) h4) E⟩
/-- in a try's body: o.m(e, a new list), o.m(a new list), o.m(e ..) -/
theorem s_mA2L {E : L2.St → XK} (ha : Ev ta σ H (.ref p)) (hi : H p = some (.ins C dx fs)) (hl : fs.lookup m = none) (h1 : Ev t1 σ H v) (ht : EvL te σ H xs) (k : ∀ c H1, H c = none → Ex H H1 → H1 c = some (.lst xs) → sp [.ref p, v, .ref c] H1 (fun _ H2 => D.nx σ H2) (E σ)) : tDrop (tMethA C m sp E ta (tCons t1 (tCons te tNil))) D σ H :=
  ha H (Ex.refl _) _ fun H2 e2 => ⟨p, dx, fs, rfl, e2 _ _ hi, hl, h1 H2 e2 _ fun H3 e3 => ht H3 (e2.trans e3) _ fun c H4 hc e4 h4 => k c H4 (fresh_back (e2.trans e3) hc) ((e2.trans e3).trans e4) h4⟩
theorem s_mA1L {E : L2.St → XK} (ha : Ev ta σ H (.ref p)) (hi : H p = some (.ins C dx fs)) (hl : fs.lookup m = none) (ht : EvL te σ H xs) (k : ∀ c H1, H c = none → Ex H H1 → H1 c = some (.lst xs) → sp [.ref p, .ref c] H1 (fun _ H2 => D.nx σ H2) (E σ)) : tDrop (tMethA C m sp E ta (tCons te tNil)) D σ H :=
  ha H (Ex.refl _) _ fun H2 e2 => ⟨p, dx, fs, rfl, e2 _ _ hi, hl, ht H2 e2 _ fun c H3 hc e3 h3 => k c H3 (fresh_back e2 hc) (e2.trans e3) h3⟩
theorem s_mAV {E : L2.St → XK} (ha : Ev ta σ H (.ref p)) (hi : H p = some (.ins C dx fs)) (hl : fs.lookup m = none) (ht : EvA t σ H vs) (k : ∀ H1, Ex H H1 → sp (.ref p :: vs) H1 (fun _ H2 => D.nx σ H2) (E σ)) : tDrop (tMethA C m sp E ta t) D σ H := mA_run (Q := fun _ H2 => D.nx σ H2) ha hi hl ht k
end
/-! ### what is frozen: all that G has; what is new joins it, but for X -/
open Classical in
noncomputable def grow (G H H1 : Hp) (X : Addr → Prop) : Hp := fun a => if G a ≠ none then G a else if H a = none ∧ ¬ X a then H1 a else none
section
variable {G H H1 : Hp} {X : Addr → Prop} {a : Addr} {o : HO}
theorem grow_ex : Ex G (grow G H H1 X) := fun a o h => by
  unfold grow
  rw [if_pos (by rw [h]; exact fun e => by cases e)]
  exact h
theorem grow_sub (e : Ex G H1) : Ex (grow G H H1 X) H1 := fun a o h => by
  unfold grow at h
  split at h
  · exact e a o h
  · split at h
    · exact h
    · cases h
theorem grow_mono {H2 : Hp} (e : Ex H1 H2) : Ex (grow G H H1 X) (grow G H H2 X) := fun a o h => by
  unfold grow at h ⊢
  split at h
  · rename_i c
    rw [if_pos c]
    exact h
  · rename_i c
    rw [if_neg c]
    split at h
    · rename_i c2
      rw [if_pos c2]
      exact e _ _ h
    · cases h
theorem grow_no (h : H a ≠ none) (g : G a = none) : grow G H H1 X a = none := by
  unfold grow
  rw [if_neg (by rw [g]; exact fun e => e rfl), if_neg fun e => h e.1]
theorem grow_X (x : X a) (g : G a = none) : grow G H H1 X a = none := by
  unfold grow
  rw [if_neg (by rw [g]; exact fun e => e rfl), if_neg fun e => e.2 x]
theorem grow_new (g : G a = none) (h : H a = none) (x : ¬ X a) (h1 : H1 a = some o) : grow G H H1 X a = some o := by
  unfold grow
  rw [if_neg (by rw [g]; exact fun e => e rfl), if_pos ⟨h, x⟩]
  exact h1
end
theorem ef_ref {te : TE} {σ : L2.St} {H : Hp} {a : Addr} {xs : List V} (h : Ev te σ H (.ref a)) (ha : H a = some (.lst xs)) : EvF te σ H xs := ef_var h ha
theorem ev_lenT {K : PySem.W.Frag} {ta : TE} {σ : L2.St} {H : Hp} {p : Addr} {xs : List V} (ha : Ev ta σ H (.ref p)) (h : SqT K H p xs) : Ev (tCB (rLenS K) (tCons ta tNil)) σ H (.int (xs.length : Int)) := ev_cb (ea_cons ha ea_nil) fun H1 e Q q => ⟨p, xs, rfl, .inr (ex_t e h), q H1 (Ex.refl H1)⟩
theorem ints_inj : ∀ {a b : List Int}, a.map V.int = b.map V.int → a = b
  | [], [], _ => rfl
  | [], _ :: _, h => by simp at h
  | _ :: _, [], h => by simp at h
  | a :: r, b :: s, h => by
    rw [List.map_cons, List.map_cons] at h
    injection h with h1 h2
    rw [V.int.inj h1, ints_inj h2]
/-! ### a dict that is being made: its lists are frozen or new -/
def DzG (G H0 H' : Hp) (d : Addr) (n : Nat) (f : Nat → List Int) : Prop := ∃ kvs : List (Key × V), H' d = some (.dK kvs) ∧ kvs.length ≤ n ∧ ∀ s : Nat, (valV kvs (.inl (s : Int)) = none ∧ f s = Z8) ∨ ∃ l, valV kvs (.inl (s : Int)) = some (.ref l) ∧ (G l = some (.lst ((f s).map V.int)) ∨ (H0 l = none ∧ H' l = some (.lst ((f s).map V.int))))
section
variable {G H0 H H' : Hp} {σ : L2.St} {te td tk : TE} {d : Addr} {n s : Nat} {f : Nat → List Int} {D : Ends} {tz : TS}
theorem DzG.ex (h : DzG G H0 H d n f) (e : Ex H H') : DzG G H0 H' d n f := by
  obtain ⟨kvs, h, hl, hs⟩ := h
  exact ⟨kvs, e _ _ h, hl, fun s => (hs s).imp id fun ⟨l, a, b⟩ => ⟨l, a, b.imp id fun c => ⟨c.1, e _ _ c.2⟩⟩⟩
theorem DzG.dz (h : DzG G H0 H d n f) (e : Ex G H) : Dz H d n f := by
  obtain ⟨kvs, h, hl, hs⟩ := h
  exact ⟨kvs, h, hl, fun s => (hs s).imp id fun ⟨l, a, b⟩ => ⟨l, a, b.elim (fun c => e _ _ c) fun c => c.2⟩⟩
theorem DzG.grown (h : DzG G H0 H d n f) (hd : H0 d = none) (g : Ex G H0) : Dz (grow G H0 H fun _ => False) d n f := by
  obtain ⟨kvs, h, hl, hs⟩ := h
  exact ⟨kvs, grow_new (fresh_back g hd) hd id h, hl, fun s => (hs s).imp id fun ⟨l, a, b⟩ => ⟨l, a, b.elim (fun c => grow_ex _ _ c) fun c => grow_new (fresh_back g c.1) c.1 id c.2⟩⟩
theorem q_dcopyG {i : Nat} (g : Ex G H) (hd : Ev td σ H (.ref d)) (hD : Dz G d n f) (k : ∀ p H1, H p = none → Ex H H1 → DzG G H H1 p n f → tz D (σ.set i (some (.ref p))) H1) :
    tSeq (tAsg (tCB (fun xs H Q => ∃ (a : Addr) (kvs : List (Key × V)), xs = [.ref a] ∧ Rd H a (.dK kvs) ∧ ∀ p, H p = none → Q (.ref p) (upd H p (.dK kvs))) (tCons td tNil)) (gName i)) tz D σ H := by
  obtain ⟨kvs, h, hl, hs⟩ := hD
  refine hd H (Ex.refl H) _ fun H1 e1 => ⟨d, kvs, rfl, .inl (e1 _ _ (g _ _ h)), fun p hp => k p _ (fresh_back e1 hp) (e1.trans (Ex.new hp)) ⟨kvs, upd_same, hl, fun s => (hs s).imp id fun ⟨l, a, b⟩ => ⟨l, a, .inl b⟩⟩⟩
theorem s_dputG {zs : List Int} (g : Ex H0 H) (hv : EvL te σ H (zs.map V.int)) (hd : Ev td σ H (.ref d)) (hk : Ev tk σ H (.int (s : Int))) (hD : DzG G H0 H d n f) (hn : n < 100000) (k : ∀ H1 o, Ex H H1 → DzG G H0 (upd H1 d o) d (n + 1) (fset f s zs) → D.nx σ (upd H1 d o)) : sDPut td tk te D σ H := by
  obtain ⟨kvs, h, hl, hs⟩ := hD
  refine hv H (Ex.refl H) _ fun l H1 hl1 e1 h1 => hd H1 e1 _ fun H2 e2 => hk H2 (e1.trans e2) _ fun H3 e3 => ?_
  have e13 := (e1.trans e2).trans e3
  have h3 := e13 _ _ h
  have l3 := e3 _ _ (e2 _ _ h1)
  have hld : l ≠ d := ne_of l3 h3 (by intro z; cases z)
  refine ⟨d, _, rfl, DPut.k (k := Sum.inl (s : Int)) h3 (sz_lt (by omega)), k H3 _ e13 ⟨_, upd_same, Nat.le_trans (length_putK _ _ _) (by omega), fun j => ?_⟩⟩
  rw [valV_put]
  by_cases hj : j = s
  · subst hj
    rw [if_pos rfl]
    refine .inr ⟨l, rfl, .inr ⟨fresh_back g hl1, ?_⟩⟩
    rw [upd_ne hld, l3]
    unfold fset
    rw [if_pos rfl]
  · rw [if_neg (fun z => hj (by cases z; rfl))]
    have ef : fset f s zs j = f j := if_neg hj
    rw [ef]
    refine (hs j).imp id fun ⟨m, a, b⟩ => ⟨m, a, b.imp id fun c => ⟨c.1, ?_⟩⟩
    have b3 := e13 _ _ c.2
    rw [upd_ne (ne_of b3 h3 (by intro z; cases z))]
    exact b3
end
section
variable {K : PySem.W.Frag} {σ : L2.St} {H : Hp} {t1 t2 te : TE} {v1 v2 : V} {xs : List V} {l : Addr} {sp : Sp} {E : XK} {D : Ends} {tz : TS}
/-- x = f(e, e', a new list) -/
theorem q_call3L {i : Nat} (h1 : Ev t1 σ H v1) (h2 : Ev t2 σ H v2) (h3 : EvL te σ H xs) (k : ∀ c H1, H c = none → Ex H H1 → H1 c = some (.lst xs) → sp [v1, v2, .ref c] H1 (fun v H2 => tz D (σ.set i (some v)) H2) E) : tSeq (tAsg (tCall sp [] E (tCons t1 (tCons t2 (tCons te tNil)))) (gName i)) tz D σ H :=
  h1 H (Ex.refl _) _ fun H1 e1 => h2 H1 e1 _ fun H2 e2 => h3 H2 (e1.trans e2) _ fun c H3 hc e3 h3' => k c H3 (fresh_back (e1.trans e2) hc) ((e1.trans e2).trans e3) h3'
/-- x = x + [(e, e')] -/
theorem s_snocT {i : Nat} (ha : Ev te σ H (.ref l)) (hl : H l = some (.lst xs)) (h1 : Ev t1 σ H v1) (h2 : Ev t2 σ H v2) (hz : xs.length < 10000) (k : ∀ t L H1, H t = none → H L = none → Ex H H1 → H1 t = some (.tup [v1, v2]) → H1 L = some (.lst (xs ++ [.ref t])) → D.nx (σ.set i (some (.ref L))) H1) :
    tAsg (tOp rCat te (tLst (tCons (tTup (tCons t1 (tCons t2 tNil))) tNil))) (gName i) D σ H :=
  ha H (Ex.refl _) _ fun H1 e1 => h1 H1 e1 _ fun H2 e2 => h2 H2 (e1.trans e2) _ fun H3 e3 => ⟨by show 2 ≤ sizeLine; decide, fun t ht => ⟨by show 1 ≤ sizeLine; decide, fun b hb => by
    have e4 := Ex.new (o := .tup [v1, v2]) ht
    have e5 := Ex.new (o := .lst [.ref t]) hb
    have e13 := (e1.trans e2).trans e3
    refine ⟨l, b, xs, [.ref t], rfl, rfl, e5 _ _ (e4 _ _ (e13 _ _ hl)), upd_same, sz_of (by simp; omega), fun L hL => ?_⟩
    have e6 := Ex.new (o := .lst (xs ++ [.ref t])) hL
    exact k t L _ (fresh_back e13 ht) (fresh_back ((e13.trans e4).trans e5) hL) (((e13.trans e4).trans e5).trans e6) (e6 _ _ (e5 _ _ upd_same)) upd_same⟩⟩
end
end LP

set_option Elab.async false
set_option linter.all false
set_option maxRecDepth 100000
set_option maxHeartbeats 4000000
namespace LV
open PySem PySem.Spec PyProof.Rows L2 Evl LT LG LH
section
variable {K : PySem.W.Frag} {σ : L2.St} {H : Hp} {tl te : TE} {ta : TA} {P a b : Addr} {xs ys : List V} {okc : Nat → (Nat → V) → V → Prop} {vals : Nat → V} {r : V} {j j2 : Nat} {vs : List Nat}
/-- a generator expression over a list that stands, over a tuple, a range, a text, two lists: elements that leave what is known -/
theorem ev_gxL (h : Ev tl σ H (.ref a)) (hx : SqL K H a xs) (hT : Tab H P) (ok : okc xs.length vals r) (hw : ∀ x, wipe ((wipe σ vs).set j (some x)) vs = wipe σ vs) (he : ∀ (i : Nat) (x : V) H1, Ex H H1 → xs[i]? = some x → Ev te ((wipe σ vs).set j (some x)) H1 (vals i)) : Ev (tGX P okc (iList K tl) (gName j) te vs) σ H r := fun H1 e Q q =>
  h H1 e _ fun H2 e2 => ⟨a, rfl, ⟨xs, ex_l (e.trans e2) hx⟩, hT.mono (e.trans e2), xs.length, vals, r, fun _ H' => Ex H2 H', ok, Ex.refl _, fun i H' hi w => ⟨⟨xs, xs[i], ex_l ((e.trans e2).trans w) hx, List.getElem?_eq_getElem hi⟩, fun x H3 hy => by
    obtain ⟨rfl, hy⟩ := hy
    exact ⟨hw x, he i x _ ((e.trans e2).trans w) (hy xs (ex_l ((e.trans e2).trans w) hx)) _ (Ex.refl _) _ fun H4 e4 => ⟨rfl, w.trans e4⟩⟩⟩, fun H' w => ⟨xs, ex_l ((e.trans e2).trans w) hx, Nat.le_refl _⟩, fun i H' _ w => q H' (e2.trans w)⟩
theorem ev_gxT (h : Ev tl σ H (.ref a)) (hx : SqT K H a xs) (hT : Tab H P) (ok : okc xs.length vals r) (hw : ∀ x, wipe ((wipe σ vs).set j (some x)) vs = wipe σ vs) (he : ∀ (i : Nat) (x : V) H1, Ex H H1 → xs[i]? = some x → Ev te ((wipe σ vs).set j (some x)) H1 (vals i)) : Ev (tGX P okc (iTup K tl) (gName j) te vs) σ H r := fun H1 e Q q =>
  h H1 e _ fun H2 e2 => ⟨a, rfl, ⟨xs, ex_t (e.trans e2) hx⟩, hT.mono (e.trans e2), xs.length, vals, r, fun _ H' => Ex H2 H', ok, Ex.refl _, fun i H' hi w => ⟨⟨xs, xs[i], ex_t ((e.trans e2).trans w) hx, List.getElem?_eq_getElem hi⟩, fun x H3 hy => by
    obtain ⟨rfl, hy⟩ := hy
    exact ⟨hw x, he i x _ ((e.trans e2).trans w) (hy xs (ex_t ((e.trans e2).trans w) hx)) _ (Ex.refl _) _ fun H4 e4 => ⟨rfl, w.trans e4⟩⟩⟩, fun H' w => ⟨xs, ex_t ((e.trans e2).trans w) hx, Nat.le_refl _⟩, fun i H' _ w => q H' (e2.trans w)⟩
theorem ev_gxR {n : Int} (h : EvA ta σ H [.int n]) (hn : 0 ≤ n ∧ n ≤ 100000) (hT : Tab H P) (ok : okc n.toNat vals r) (hw : ∀ x, wipe ((wipe σ vs).set j (some x)) vs = wipe σ vs) (he : ∀ (i : Nat) H1, Ex H H1 → (i : Int) < n → Ev te ((wipe σ vs).set j (some (.int (i : Int)))) H1 (vals i)) : Ev (tGX P okc (iRng1 ta) (gName j) te vs) σ H r := fun H1 e Q q =>
  h H1 e _ fun H2 e2 => ⟨n, rfl, by omega, by omega, hT.mono (e.trans e2), n.toNat, vals, r, fun _ H' => Ex H2 H', ok, Ex.refl _, fun i H' hi w => ⟨hi, fun x H3 hy => by
    obtain ⟨rfl, rfl⟩ := hy
    rw [Int.zero_add]
    exact ⟨hw _, he i _ ((e.trans e2).trans w) (by omega) _ (Ex.refl _) _ fun H4 e4 => ⟨rfl, w.trans e4⟩⟩⟩, fun H' w => Nat.le_refl _, fun i H' _ w => q H' (e2.trans w)⟩
theorem ev_gxS {z : Str} (h : Ev tl σ H (.str z)) (hT : Tab H P) (ok : okc z.cps.size vals r) (hw : ∀ x, wipe ((wipe σ vs).set j (some x)) vs = wipe σ vs) (he : ∀ (i : Nat) (c : Nat) H1, Ex H H1 → z.cps[i]? = some c → Ev te ((wipe σ vs).set j (some (.str ⟨#[c]⟩))) H1 (vals i)) : Ev (tGX P okc (iStr tl) (gName j) te vs) σ H r := fun H1 e Q q =>
  h H1 e _ fun H2 e2 => ⟨z, rfl, hT.mono (e.trans e2), z.cps.size, vals, r, fun _ H' => Ex H2 H', ok, Ex.refl _, fun i H' hi w => ⟨hi, fun x H3 hy => by
    obtain ⟨rfl, c, hc, rfl⟩ := hy
    exact ⟨hw _, he i c _ ((e.trans e2).trans w) hc _ (Ex.refl _) _ fun H4 e4 => ⟨rfl, w.trans e4⟩⟩⟩, fun H' w => Nat.le_refl _, fun i H' _ w => q H' (e2.trans w)⟩
/-- over zip of two lists -/
theorem ev_gxZ {n : Nat} (h : EvA ta σ H [.ref a, .ref b]) (hx : SqL K H a xs) (hy : SqL K H b ys) (hn : n = min xs.length ys.length) (hT : Tab H P) (ok : okc n vals r) (hw : ∀ x y, wipe (((wipe σ vs).set j (some x)).set j2 (some y)) vs = wipe σ vs)
    (he : ∀ (i : Nat) (x y : V) H1, Ex H H1 → xs[i]? = some x → ys[i]? = some y → Ev te (((wipe σ vs).set j (some x)).set j2 (some y)) H1 (vals i)) : Ev (tGX P okc (iZip K ta) (gTup K 2 (gCons (gName j) (gCons (gName j2) gNil))) te vs) σ H r := fun H1 e Q q =>
  h H1 e _ fun H2 e2 => ⟨a, b, xs, ys, rfl, ex_l (e.trans e2) hx, ex_l (e.trans e2) hy, hT.mono (e.trans e2), n, vals, r, fun _ H' => Ex H2 H', ok, Ex.refl _, fun i H' hi w => ⟨⟨xs, ys, xs[i]'(by omega), ys[i]'(by omega), ex_l ((e.trans e2).trans w) hx, ex_l ((e.trans e2).trans w) hy, List.getElem?_eq_getElem _, List.getElem?_eq_getElem _⟩, fun x H3 hz => by
    obtain ⟨T, x1, y1, rfl, hT1, rfl, h1, h2⟩ := hz
    have e3 := ((e.trans e2).trans w).trans (Ex.new (o := .tup [x1, y1]) hT1)
    refine ⟨T, _, rfl, st_of upd_same, rfl, _, _, rfl, _, _, rfl, rfl, hw x1 y1, ?_⟩
    exact he i x1 y1 _ e3 (h1 xs (ex_l ((e.trans e2).trans w) hx)) (h2 ys (ex_l ((e.trans e2).trans w) hy)) _ (Ex.refl _) _ fun H4 e4 => ⟨rfl, (w.trans (Ex.new hT1)).trans e4⟩⟩, fun H' w => ⟨xs, ys, ex_l ((e.trans e2).trans w) hx, ex_l ((e.trans e2).trans w) hy, by omega⟩, fun i H' _ w => q H' (e2.trans w)⟩
theorem ok_all {n : Nat} (f : Nat → Bool) : okAll n (fun i => .bl (f i)) (.bl (allF n f)) := ⟨f, rfl, rfl⟩
theorem ok_any {n : Nat} (f : Nat → Bool) : okAny n (fun i => .bl (f i)) (.bl (anyF n f)) := ⟨f, rfl, rfl⟩
theorem ok_sum {n : Nat} (f : Nat → Int) (h : ∀ j, j < n → InLong (f j) ∧ InLong (preSum f (j + 1))) : okSum n (fun i => .int (f i)) (.int (preSum f n)) := ⟨f, rfl, rfl, h⟩
theorem ok_max {n : Nat} (f : Nat → Int) (h : 0 < n) : okMax n (fun i => .int (f i)) (.int (topI f (n - 1))) := ⟨f, rfl, rfl, h⟩
/-- sum(a new list of ints) -/
theorem ev_sumN {ns : List Int} (h : EvL te σ H (ns.map V.int)) : Ev (tCB (rSum K) (tCons te tNil)) σ H (.int ns.sum) := fun H1 e Q q =>
  h H1 e _ fun p H2 _ e2 h2 => ⟨p, ns, rfl, sq_of h2, q H2 e2⟩
end
end LV
namespace LV
open PySem PySem.Spec PyProof.Rows L2 Evl LT LG LH LP StX
section
variable {K : PySem.W.Frag} {σ : L2.St} {H H' : Hp} {tl te ta tb : TE} {t : TA} {p l : Addr} {xs ys : List V} {v : V} {D : Ends} {tz : TS}
theorem ea_starT (h : Ev te σ H (.ref p)) (hx : SqT K H p xs) (hr : EvA t σ H ys) : EvA (tStar K te t) σ H (xs ++ ys) := fun H1 e Q q =>
  h H1 e _ fun H2 e2 => ⟨p, xs, rfl, .inl (ex_t (e.trans e2) hx), hr H2 (e.trans e2) _ fun H3 e3 => q H3 (e2.trans e3)⟩
theorem ea_starN (h : EvL te σ H xs) (hr : EvA t σ H ys) : EvA (tStar K te t) σ H (xs ++ ys) := fun H1 e Q q =>
  h H1 e _ fun p H2 _ e2 h2 => ⟨p, xs, rfl, .inr (sq_of h2), hr H2 (e.trans e2) _ fun H3 e3 => q H3 (e2.trans e3)⟩
theorem cut_mid (xs : List V) {i j : Nat} (h : i ≤ j) (hj : j ≤ xs.length) : cutV xs (some (i : Int)) (some (j : Int)) = (xs.drop i).take (j - i) := by
  unfold cutV
  rw [HT.sIx_nat, HT.sIx_nat]; try rw [show min j xs.length = j from Nat.min_eq_left hj]
  rw [show min i xs.length = i from Nat.min_eq_left (Nat.le_trans h hj)]
/-- xs[i] of a new list -/
theorem ev_ixN {i : Int} (ha : EvL ta σ H xs) (hb : ∀ H1, Ex H H1 → Ev tb σ H1 (.int i)) (h : atI xs i = some v) : Ev (tOp (rIxL K) ta tb) σ H v := ev_opL1 ha hb fun p H1 h1 _ => rv_ixL (sq_of h1) h
/-- tuple(a list that stands or is new) is eu_tupL; of a tuple: the same -/
theorem ev_tupT (h : Ev te σ H (.ref p)) (hx : SqT K H p xs) : Ev (tCB (fun zs H Q => ∃ p ys, zs = [.ref p] ∧ ((SqL K H p ys ∧ ∀ l, H l = none → Q (.ref l) (upd H l (.tup ys))) ∨ (SqT K H p ys ∧ Q (.ref p) H))) (tCons te tNil)) σ H (.ref p) := fun H1 e Q q =>
  h H1 e _ fun H2 e2 => ⟨p, xs, rfl, .inr ⟨ex_t (e.trans e2) hx, q H2 e2⟩⟩
theorem ev_lenL (ha : Ev te σ H (.ref p)) (h : H p = some (.lst xs)) : Ev (tCB (rLenS K) (tCons te tNil)) σ H (.int (xs.length : Int)) := ev_len ha (sq_of h)
/-- a tuple made of a new tuple and .. -/
theorem q_appUL {ys : List V} (hl : H l = some (.lst xs)) (ha : Ev ta σ H (.ref l)) (h : EvU te σ H ys) (hz : xs.length < 100000) (k : ∀ p H1, H p = none → Ex H H1 → H1 p = some (.tup ys) → tz D σ (upd H1 l (.lst (xs ++ [.ref p])))) :
    tSeq (tDrop (tBM K "list" rAppend ta (tCons te tNil))) tz D σ H := q_appU hl ha h hz k
end
/-! ### heaps in which one object may change -/
def Bx (p : Addr) (H H' : Hp) : Prop := ∀ a o, a ≠ p → H a = some o → H' a = some o
theorem Bx.of {p : Addr} {H H' : Hp} (e : Ex H H') : Bx p H H' := fun a o _ h => e a o h
theorem Bx.trans {p : Addr} {H H1 H2 : Hp} (e : Bx p H H1) (f : Bx p H1 H2) : Bx p H H2 := fun a o n h => f a o n (e a o n h)
theorem Bx.up {p : Addr} {H H' : Hp} {o : HO} (e : Bx p H H') : Bx p H (upd H' p o) := fun a u n h => by
  rw [upd_ne n]
  exact e a u n h
theorem Bx.ex {p : Addr} {H0 H H' : Hp} (e : Ex H0 H) (f : Bx p H H') (n : H0 p = none) : Ex H0 H' := fun a o h => f a o (fun z => by rw [z, n] at h; cases h) (e a o h)
theorem Bx.back {p q : Addr} {H H' : Hp} (e : Bx p H H') (n : q ≠ p) (h : H' q = none) : H q = none := by
  cases h1 : H q with
  | none => rfl
  | some o =>
    rw [e q o n h1] at h
    cases h
end LV
namespace LV
open PySem PySem.Spec PyProof.Rows L2 Evl LT LG LH LP StX
section
variable {σ : L2.St} {H : Hp} {t1 t2 te : TE} {v1 v2 : V} {xs ys : List V} {sp : Sp} {E : XK} {D : Ends} {tz : TS}
/-- x = f(e, a new list) -/
theorem q_call2L {i : Nat} (h1 : Ev t1 σ H v1) (h2 : EvL te σ H xs) (k : ∀ c H1, H c = none → Ex H H1 → H1 c = some (.lst xs) → sp [v1, .ref c] H1 (fun v H2 => tz D (σ.set i (some v)) H2) E) : tSeq (tAsg (tCall sp [] E (tCons t1 (tCons te tNil))) (gName i)) tz D σ H :=
  h1 H (Ex.refl _) _ fun H1 e1 => h2 H1 e1 _ fun c H2 hc e2 h3 => k c H2 (fresh_back e1 hc) (e1.trans e2) h3
theorem ev_is' (h : EvU te σ H xs) (e : xs = ys) : EvU te σ H ys := by
  rw [← e]
  exact h
end
end LV
namespace LV
open PySem PySem.Spec PyProof.Rows L2 Evl LT LG LH LP StX
/-! ### a heap without some of its objects -/
def frz (S : List Addr) (H : Hp) : Hp := fun a => if a ∈ S then none else H a
theorem frz_ne {S : List Addr} {H : Hp} {a : Addr} (h : a ∉ S) : frz S H a = H a := if_neg h
theorem frz_upd {S : List Addr} {H : Hp} {a : Addr} {o : HO} (h : a ∈ S) : frz S (upd H a o) = frz S H := funext fun b => by
  unfold frz
  by_cases hb : b ∈ S
  · rw [if_pos hb, if_pos hb]
  · rw [if_neg hb, if_neg hb, upd_ne fun z => hb (by rw [z]; exact h)]
theorem frz_ex {S : List Addr} {H : Hp} : Ex (frz S H) H := fun a o h => by
  unfold frz at h
  by_cases hb : a ∈ S
  · rw [if_pos hb] at h
    cases h
  · rw [if_neg hb] at h
    exact h
theorem ex_frz {S : List Addr} {H H' : Hp} (e : Ex H H') : Ex (frz S H) (frz S H') := fun a o h => by
  unfold frz at h ⊢
  by_cases hb : a ∈ S
  · rw [if_pos hb] at h
    cases h
  · rw [if_neg hb] at h ⊢
    exact e _ _ h
theorem frz_some {S : List Addr} {H : Hp} {a : Addr} {o : HO} (h : frz S H a = some o) : a ∉ S ∧ H a = some o := by
  unfold frz at h
  by_cases hb : a ∈ S
  · rw [if_pos hb] at h
    cases h
  · rw [if_neg hb] at h
    exact ⟨hb, h⟩
theorem Bx.mut {p w : Addr} {H H' : Hp} {o : HO} (e : Bx p H H') (h : H w = none) : Bx p H (upd H' w o) := fun a u n ha => by
  rw [upd_ne fun z => by rw [z, h] at ha; cases ha]
  exact e a u n ha
theorem Bx.l {K : PySem.W.Frag} {p a : Addr} {H H' : Hp} {xs : List V} (e : Bx p H H') (n : a ≠ p) (h : SqL K H a xs) : SqL K H' a xs := by
  rcases h with (h | ⟨o, h⟩) | h
  · exact .inl (.inl (e _ _ n h))
  · exact .inl (.inr ⟨o, e _ _ n h⟩)
  · exact .inr h
end LV
namespace LV
open PySem PySem.Spec PyProof.Rows L2 Evl LT LG LH LP StX
/-- what a for over the list a asks -/
abbrev FB (K : PySem.W.Frag) (a : Addr) (g : TG) (tb : TS) (D : Ends) (σ : L2.St) (H : Hp) : Prop := ∃ W : Nat → Nat → L2.St → Hp → Prop, (∃ m, W 0 m σ H) ∧ ∀ i m σ H, W i m σ H →
  ((Itl K a).stop i H ∧ D.nx σ H) ∨ ((Itl K a).go i H ∧ ∃ N : L2.St → Hp → Prop, (∀ σ' H', N σ' H' → ∃ m', m' < m ∧ W (i + 1) m' σ' H') ∧ ∀ x H', (Itl K a).yld i H x H' → g x σ H' fun σ2 H2 => tb { D with nx := N, ct := N, bk := D.nx } σ2 H2)
/-- for .. in f(..): the call makes a list -/
theorem s_forCall {K : PySem.W.Frag} {σ : L2.St} {H : Hp} {g : TG} {tb : TS} {D : Ends} {sp : Sp} {E : XK} {tr : TA} {vs : List V} (h : EvA tr σ H vs) (k : ∀ H1, Ex H H1 → sp vs H1 (fun x H2 => ∃ a, x = V.ref a ∧ (∃ xs, SqL K H2 a xs) ∧ FB K a g tb D σ H2) E) : tFor (iList K (tCall sp [] E tr)) g tb D σ H :=
  h H (Ex.refl _) _ fun H1 e1 => by
    rw [List.append_nil]
    exact k H1 e1
theorem q_forCall {K : PySem.W.Frag} {σ : L2.St} {H : Hp} {g : TG} {tb tz : TS} {D : Ends} {sp : Sp} {E : XK} {tr : TA} {vs : List V} (h : EvA tr σ H vs) (k : ∀ H1, Ex H H1 → sp vs H1 (fun x H2 => ∃ a, x = V.ref a ∧ (∃ xs, SqL K H2 a xs) ∧ FB K a g tb { D with nx := tz D } σ H2) E) : tSeq (tFor (iList K (tCall sp [] E tr)) g tb) tz D σ H := s_forCall (D := { D with nx := tz D }) h k
section
variable {P : Program} {w : World} {K : PySem.W.Frag} {mg : Str → Option Value} {base : Heap}
/-- as FunC.ok, for a def that may raise -/
theorem _root_.LS.FunC.okX {x qual : Str} {st : Stmt} {f c : Addr} {fd : FuncData} {N ps : List Str} {k : Nat} {sp : Sp} (F : LS.FunC K x qual st f fd c) (S : FnScope N ps (defScope st)) (len : ∀ vs H Q E, sp vs H Q E → vs.length = ps.length)
    (hbody : ∀ (A : Around) (outer : List Env) (s : Shared) (H : Hp) (vs : List V) (Q : VK) (E : XK), Room k (A.deeper (envOfC qual (defScope st) s.heap.objs.size f (.ref c))) → sp vs H Q E →
      ∃ t, PSs (cxOf (L2.CX P w) P w K mg base N qual (defScope st) f (.ref c) A outer s H E) (defBody st) t ∧ t { nx := fun _ H' => Q .non H', rt := Q } (start N vs) H) : FnOk P w K mg base (L2.CX P w) (k + 1) f fd ps sp := by
  obtain ⟨oc, od, kV, doc, pm, an, ct, osl, rfl, lk, hcd⟩ := F.ex
  exact fn_of lk hcd S len fun A outer s H vs Q E hr hsp => hbody A outer s H vs Q E hr hsp
end
end LV

set_option Elab.async false
set_option linter.all false
set_option maxRecDepth 100000
set_option maxHeartbeats 4000000
namespace LD
open PySem PySem.Spec PyProof.Rows L2 Evl LT LG LH LV LP LO
/-! ### a dict with int keys that stands at d -/
section
variable {K : PySem.W.Frag} {σ : L2.St} {H : Hp} {td tk te tl : TE} {d : Addr} {kvs : List (Key × V)} {z : Int} {v : V} {D : Ends} {tz : TS}
theorem ev_dIn (hk : Ev tk σ H (.int z)) (hd : Ev td σ H (.ref d)) (h : H d = some (.dK kvs)) : Ev (tDIn tk td) σ H (.bl (valV kvs (.inl z)).isSome) := fun H1 e Q q =>
  hk H1 e _ fun H2 e2 => hd H2 (e.trans e2) _ fun H3 e3 => ⟨d, _, rfl, DGet.k (k := Sum.inl z) (((e.trans e2).trans e3) _ _ h), q H3 (e2.trans e3)⟩
theorem ev_dNi (hk : Ev tk σ H (.int z)) (hd : Ev td σ H (.ref d)) (h : H d = some (.dK kvs)) : Ev (tDNotIn tk td) σ H (.bl (!(valV kvs (.inl z)).isSome)) := fun H1 e Q q =>
  hk H1 e _ fun H2 e2 => hd H2 (e.trans e2) _ fun H3 e3 => ⟨d, _, rfl, DGet.k (k := Sum.inl z) (((e.trans e2).trans e3) _ _ h), q H3 (e2.trans e3)⟩
theorem ev_dget (hd : Ev td σ H (.ref d)) (hk : Ev tk σ H (.int z)) (h : H d = some (.dK kvs)) (hv : valV kvs (.inl z) = some v) : Ev (tDGet td tk) σ H v := fun H1 e Q q =>
  hd H1 e _ fun H2 e2 => hk H2 (e.trans e2) _ fun H3 e3 => ⟨d, v, rfl, by rw [← hv]; exact DGet.k (k := Sum.inl z) (((e.trans e2).trans e3) _ _ h), q H3 (e2.trans e3)⟩
theorem s_dputU {xs : List V} (hv : EvU te σ H xs) (hd : Ev td σ H (.ref d)) (hk : Ev tk σ H (.int z)) (h : H d = some (.dK kvs)) (hl : kvs.length < 100000) (k : ∀ p H1, H p = none → Ex H H1 → H1 p = some (.tup xs) → D.nx σ (upd H1 d (.dK (putK kvs (.inl z) (.ref p))))) : sDPut td tk te D σ H :=
  hv H (Ex.refl _) _ fun p H1 hp e1 h1 => hd H1 e1 _ fun H2 e2 => hk H2 (e1.trans e2) _ fun H3 e3 => ⟨d, _, rfl, DPut.k (k := Sum.inl z) (((e1.trans e2).trans e3) _ _ h) (sz_lt hl), k p H3 hp ((e1.trans e2).trans e3) (e3 _ _ (e2 _ _ h1))⟩
theorem s_dputL' {xs : List V} (hv : EvL te σ H xs) (hd : Ev td σ H (.ref d)) (hk : Ev tk σ H (.int z)) (h : H d = some (.dK kvs)) (hl : kvs.length < 100000) (k : ∀ p H1, H p = none → Ex H H1 → H1 p = some (.lst xs) → D.nx σ (upd H1 d (.dK (putK kvs (.inl z) (.ref p))))) : sDPut td tk te D σ H :=
  hv H (Ex.refl _) _ fun p H1 hp e1 h1 => hd H1 e1 _ fun H2 e2 => hk H2 (e1.trans e2) _ fun H3 e3 => ⟨d, _, rfl, DPut.k (k := Sum.inl z) (((e1.trans e2).trans e3) _ _ h) (sz_lt hl), k p H3 hp ((e1.trans e2).trans e3) (e3 _ _ (e2 _ _ h1))⟩
theorem s_ddel (hd : Ev td σ H (.ref d)) (hk : Ev tk σ H (.int z)) (h : H d = some (.dK kvs)) (hv : (valV kvs (.inl z)).isSome = true) (k : ∀ H1, Ex H H1 → D.nx σ (upd H1 d (.dK (dropK kvs (.inl z))))) : sDDel td tk D σ H :=
  hd H (Ex.refl _) _ fun H1 e1 => hk H1 e1 _ fun H2 e2 => ⟨d, kvs, .inl z, rfl, (e1.trans e2) _ _ h, rfl, hv, k H2 (e1.trans e2)⟩
/-- a lock is taken and given back -/
theorem ex_unlock {H H2 : Hp} {u : HO} {od : Obj} (hd : H d = some u) (e : Ex (upd H d (.frz od u)) H2) : Ex H (upd H2 d u) := fun a o h => by
  by_cases ha : a = d
  · rw [ha, upd_same, ← hd, ← ha]
    exact h
  · rw [upd_ne ha]
    exact e _ _ (by rw [upd_ne ha]; exact h)
theorem ev_lock {u : HO} (hd : H d = some u) (mu : Mut (some u)) (h : ∀ od H1, Ex H H1 → Ev te σ (upd H1 d (.frz od u)) v) : Ev (tLockE te) σ H v := fun H1 e Q q =>
  ⟨d, u, e _ _ hd, mu, fun od => h od H1 e _ (Ex.refl _) _ fun H2 e2 => ⟨e2 _ _ upd_same, q _ (ex_unlock (e _ _ hd) e2)⟩⟩
/-- over the values of a dict -/
theorem ev_gxV {P : Addr} {okc : Nat → (Nat → V) → V → Prop} {vals : Nat → V} {r : V} {j : Nat} {vs : List Nat} (hd : H d = some (.dK kvs)) (h : ∀ od H1, Ex H H1 → Ev tl σ (upd H1 d (.frz od (.dK kvs))) (.ref d)) (hT : Tab H P) (hPd : P ≠ d) (ok : okc kvs.length vals r) (hw : ∀ x, wipe ((wipe σ vs).set j (some x)) vs = wipe σ vs)
    (he : ∀ (i : Nat) (k : Key) (x : V) od H1 H2, Ex H H1 → Ex (upd H1 d (.frz od (.dK kvs))) H2 → kvs[i]? = some (k, x) → Ev te ((wipe σ vs).set j (some x)) H2 (vals i)) : Ev (tLockE (tGX P okc (iVals tl) (gName j) te vs)) σ H r :=
  ev_lock hd True.intro fun od H0 e0 H1 e1 Q q => h od H0 e0 H1 e1 _ fun H2 e2 => by
    have e12 := e1.trans e2
    refine ⟨d, od, kvs, rfl, e12 _ _ upd_same, e12 _ _ (by rw [upd_ne hPd]; exact e0 _ _ hT), kvs.length, vals, r, fun _ H' => Ex H2 H', ok, Ex.refl _, fun i H' hi w => ⟨⟨w _ _ (e12 _ _ upd_same), hi⟩, fun x H3 hy => ?_⟩, fun H' w => ⟨w _ _ (e12 _ _ upd_same), Nat.le_refl _⟩, fun i H' _ w => q H' (e2.trans w)⟩
    obtain ⟨rfl, k, hk⟩ := hy
    exact ⟨hw x, he i k x od H0 _ e0 (e12.trans w) hk _ (Ex.refl _) _ fun H4 e4 => ⟨rfl, w.trans e4⟩⟩
/-- sorted(d): the keys, each once -/
theorem el_sortedD {ks : List Int} {ns : List Int} (h : Ev te σ H (.ref d)) (hd : H d = some (.dK kvs)) (hks : kvs.map (·.1) = ks.map Sum.inl) (h64 : ks.length < 64) (hs : ∀ ys : List Int, ys.Perm ks → ys.Pairwise (· ≤ ·) → ys = ns) : EvL (tCB (fun xs H Q => ∃ (a : Addr) (kvs : List (Key × V)) (ks : List Int), xs = [.ref a] ∧ Rd H a (.dK kvs) ∧ kvs.map (·.1) = ks.map Sum.inl ∧ ks.length < 64 ∧
    ∀ (ys : List Int) (p : Addr), ys.Perm ks → ys.Pairwise (· ≤ ·) → H p = none → Q (.ref p) (upd H p (.lst (ys.map V.int)))) (tCons te tNil)) σ H (ns.map V.int) := fun H1 e Q q =>
  h H1 e _ fun H2 e2 => ⟨d, kvs, ks, rfl, .inl (e2 _ _ (e _ _ hd)), hks, h64, fun ys p h1 h2 hp => q p _ (fresh_back e2 hp) (e2.trans (Ex.new hp)) (by rw [upd_same, hs ys h1 h2])⟩
end
/-- a sorted list of the same numbers is the same list -/
theorem sorted_uni : ∀ {a b : List Int}, a.Perm b → a.Pairwise (· ≤ ·) → b.Pairwise (· ≤ ·) → a = b
  | [], b, p, _, _ => p.nil_eq
  | x :: r, b, p, h1, h2 => by
    cases b with
    | nil => exact absurd p.symm.nil_eq (by simp)
    | cons y t =>
      have hx : x ∈ y :: t := p.mem_iff.mp List.mem_cons_self
      have hy : y ∈ x :: r := p.mem_iff.mpr List.mem_cons_self
      have e : x = y := by
        rcases List.mem_cons.mp hx with e | hx
        · exact e
        · rcases List.mem_cons.mp hy with e | hy
          · exact e.symm
          · have a1 := (List.pairwise_cons.mp h1).1 y hy
            have a2 := (List.pairwise_cons.mp h2).1 x hx
            omega
      subst e
      rw [sorted_uni (p.cons_inv) (List.pairwise_cons.mp h1).2 (List.pairwise_cons.mp h2).2]
/-! ### the keys of a dict that is put to, that is dropped from -/
theorem put_keys {kvs : List (Key × V)} {k : Key} {v : V} (h : valV kvs k = none) : putK kvs k v = kvs ++ [(k, v)] := by
  unfold putK
  rw [valV_any, h]
  rfl
theorem valV_drop (kvs : List (Key × V)) (k j : Key) : valV (dropK kvs k) j = if j = k then none else valV kvs j := by
  induction kvs with
  | nil =>
    show valV [] j = _
    rw [valV_nil]
    split <;> rfl
  | cons p r ih =>
    unfold dropK at ih ⊢
    by_cases hp : p.1 = k
    · rw [List.filter_cons_of_neg (by simpa using hp), ih]
      by_cases hj : j = k
      · rw [if_pos hj, if_pos hj]
      · rw [if_neg hj, if_neg hj, valV_neg (fun e => hj (by rw [← e, hp]))]
    · rw [List.filter_cons_of_pos (by simpa using hp)]
      by_cases hj : p.1 = j
      · rw [valV_pos hj, valV_pos hj, if_neg (fun e => hp (by rw [hj, e]))]
      · rw [valV_neg hj, valV_neg hj, ih]
end LD

set_option Elab.async false
set_option linter.all false
set_option maxRecDepth 100000
set_option maxHeartbeats 4000000
namespace LZ
open PySem PySem.Spec PyProof.Rows L2 Evl LT LG LH LP StX
/-! ### zip of a tuple and a list -/
def ItM (K : PySem.W.Frag) (a b : Addr) : It where
  go := fun i H => ∃ (us vs : List V) (m n : V), SqT K H a us ∧ SqL K H b vs ∧ us[i]? = some m ∧ vs[i]? = some n
  yld := fun i H v G => ∃ T m n, v = .ref T ∧ H T = none ∧ G = upd H T (.tup [m, n]) ∧ (∀ us, SqT K H a us → us[i]? = some m) ∧ ∀ vs, SqL K H b vs → vs[i]? = some n
  stop := fun i H => ∃ us vs : List V, SqT K H a us ∧ SqL K H b vs ∧ i ≤ us.length ∧ i ≤ vs.length ∧ (i = us.length ∨ i = vs.length)
theorem sep_of {z TI TO i1 i2 a b : Addr} (D : ZipApart z TI TO i1 i2 a b) : ZipSep2 z TI TO i1 i2 [i1, a] [i2, b] where
  TIz := D.TIz
  TOz := D.TOz
  TITO := D.TITO
  TIi1 := D.TIi1
  mem1 := List.mem_cons_self
  zf1 := by simp [D.i1z.symm, D.l1z.symm]
  Tf1 := by simp [D.TOi1, D.l1TO.symm]
  TIi2 := D.TIi2
  mem2 := List.mem_cons_self
  zf2 := by simp [D.i2z.symm, D.l2z.symm]
  Tf2 := by simp [D.TOi2, D.l2TO.symm]
  sep1_2 := by simp [D.i12, D.l2i1.symm]
  sep2_1 := by simp [D.i12.symm, D.l1i2.symm]
def stM (z TI TO i1 i2 a b : Addr) (k : Nat) (g : Heap) : Prop := IsZip g z TI TO .none ∧ IsTupOf2 g TI (.ref i1) (.ref i2) ∧ (∃ m n, IsTupOf2 g TO m n) ∧ g.IsTupleIter i1 a k ∧ g.IsListIter i2 b k
theorem in5 {c z TI TO i1 i2 : Addr} (h : c ∈ [z, TI, TO, i1, i2]) : c = z ∨ c = TI ∨ c = TO ∨ c = i1 ∨ c = i2 := by
  simpa only [List.mem_cons, List.not_mem_nil, or_false] using h
theorem turn_zipM {P : Program} {w : World} {K : PySem.W.Frag} {elts : List Expr} {kk : Nat} {tpos : Pos} {a b z TI TO i1 i2 : Addr} (D : ZipApart z TI TO i1 i2 a b) : Turn P w K (.Tuple elts kk tpos) (ItM K a b) [z, TI, TO, i1, i2] z (stM z TI TO i1 i2 a b) where
  mem := List.mem_cons_self
  obj := by
    rintro k g ⟨A1, A2, ⟨m, n, A3⟩, ⟨u1, B1, -, C1⟩, ⟨u2, B2, -, C2⟩⟩ c hc
    rcases in5 hc with rfl | rfl | rfl | rfl | rfl
    · exact ⟨_, A1, fun v e => by cases e⟩
    · exact ⟨_, A2, fun v e => by cases e⟩
    · exact ⟨_, A3, fun v e => by cases e⟩
    · exact ⟨u1, B1, fun v e => by rw [C1] at e; cases e⟩
    · exact ⟨u2, B2, fun v e => by rw [C2] at e; cases e⟩
  keep := by
    rintro k g g' ⟨A1, A2, ⟨m, n, A3⟩, B1, B2⟩ kp
    exact ⟨kp z (by simp) _ A1, kp TI (by simp) _ A2, ⟨m, n, kp TO (by simp) _ A3⟩, B1.at (kp i1 (by simp)), B2.at (kp i2 (by simp))⟩
  item := by
    rintro X rfl rfl rfl hC k pins st τ G E Iv fpo ⟨A1, A2, ⟨m0, n0, A3⟩, B1, B2⟩ ⟨us, vs, m, n, qa, qb, em, en⟩
    have hh : X.A.in1.handled = none := Iv.ok.hd hC
    obtain ⟨ia, ra, ta, -⟩ := Iv.tuple qa
    obtain ⟨ib, rb, lb, -⟩ := Iv.list qb
    obtain ⟨u, hu, ru⟩ := ra.get em
    obtain ⟨v, hv, rv⟩ := rb.get en
    have zl := Heap.lt_size A1
    have ka : k < ia.toArray.size := by
      have := (List.getElem?_eq_some_iff.mp hu).1
      simpa using this
    have kb : k < ib.toArray.size := by
      have := (List.getElem?_eq_some_iff.mp hv).1
      simpa using this
    refine wpAny_pyNext_zipD2_item (sep_of D) (Draws.tuple hh i1 a D.l1i1 ia.toArray) (Draws.list hh i2 b D.l2i2 ib.toArray) A1 A2 A3 ⟨B1, ta⟩ ⟨B2, lb.isList⟩ ka kb fun x1 x2 g tk e1 e2 z1 O1 S1 S2 hT hs kp => ?_
    obtain rfl : u = x1 := by
      have : some u = some x1 := by rw [← hu, ← e1]; simp
      exact Option.some.inj this
    obtain rfl : v = x2 := by
      have : some v = some x2 := by rw [← hv, ← e2]; simp
      exact Option.some.inj this
    refine ⟨_, rfl, wpAny_letOwnedTupleGo_zip (s := { st with heap := g, toks := tk }) z1 fun g2 z2 sb => ?_⟩
    have hT2 : IsTupOf2 g2 st.heap.objs.size u v := (sb.2 _ (Nat.ne_of_gt zl)).trans hT
    have nw : ObjOk X.prog X.w (upd G st.heap.objs.size (.tup [m, n])) g2 st.heap.objs.size (.tup [m, n]) := ⟨Nat.le_of_ble_eq_true rfl, [u, v], .cons ru (.cons rv .nil), _, hT2, rfl, _, rfl⟩
    have old : ∀ c o, c ∉ [z, TI, TO, i1, i2] → st.heap.get? c = some o → g2.get? c = some o := fun c o hc e => by
      simp only [List.mem_cons, List.not_mem_nil, or_false, not_or] at hc
      exact (sb.2 c hc.1).trans (kp c o hc.1 hc.2.2.1 hc.2.2.2.1 hc.2.2.2.2 e)
    have I1 : Inv X pins τ (upd G st.heap.objs.size (.tup [m, n])) { st with heap := g2, toks := tk } := Iv.turnedNew (t' := tk) old fpo (Nat.le_refl _) nw
    refine ⟨.ref _, _, I1, rfl, ⟨_, m, n, rfl, Iv.hok.fresh (Nat.le_refl _), rfl, fun l hl => by rw [Iv.tuple_inj hl qa]; exact em, fun l hl => by rw [Iv.list_inj hl qb]; exact en⟩, ⟨z2, (sb.2 _ D.TIz).trans (kp _ _ D.TIz D.TITO D.TIi1 D.TIi2 A2), ⟨u, v, (sb.2 _ D.TOz).trans O1⟩, S1.1.at fun o e => (sb.2 _ D.i1z).trans e, S2.1.at fun o e => (sb.2 _ D.i2z).trans e⟩, fun c hc => ?_⟩
    have cl : c < st.heap.objs.size := by
      rcases in5 hc with rfl | rfl | rfl | rfl | rfl
      · exact zl
      · exact Heap.lt_size A2
      · exact Heap.lt_size A3
      · obtain ⟨_, e, _⟩ := B1
        exact Heap.lt_size e
      · obtain ⟨_, e, _⟩ := B2
        exact Heap.lt_size e
    rw [upd_ne (Nat.ne_of_lt cl)]
    exact (fpo c hc).1
  done := by
    rintro X rfl rfl rfl hC k pins st τ G E Iv fpo ⟨A1, A2, ⟨m0, n0, A3⟩, B1, B2⟩ ⟨us, vs, qa, qb, la, lb', en⟩
    have hh : X.A.in1.handled = none := Iv.ok.hd hC
    obtain ⟨ia, ra, ta, -⟩ := Iv.tuple qa
    obtain ⟨ib, rb, lb, -⟩ := Iv.list qb
    have r1 := ra.length
    have r2 := rb.length
    refine wpAny_pyNext_zipD2_end (sep_of D) (Draws.tuple hh i1 a D.l1i1 ia.toArray) (Draws.list hh i2 b D.l2i2 ib.toArray) A1 A2 A3 ⟨B1, ta⟩ ⟨B2, lb.isList⟩ (by simp; omega) (by simp; omega) (by simp; omega) fun g tk kp => ⟨rfl, Iv.turnedL (t' := tk) (ch := [z, TI, TO, i1, i2]) (fun c o hc e => ?_) fpo⟩
    simp only [List.mem_cons, List.not_mem_nil, or_false, not_or] at hc
    exact kp c o hc.1 hc.2.2.1 hc.2.2.2.1 hc.2.2.2.2 e
  self := fun _ _ _ _ _ t q => wpAny_pyIter_zip t.1 q
def iZipM (K : PySem.W.Frag) (ta : TA) : TI := fun σ H R => ta σ H fun xs G => ∃ a b us vs, xs = [.ref a, .ref b] ∧ SqT K G a us ∧ SqL K G b vs ∧ R (ItM K a b) G
theorem pi_zipM {X : Cx} {e1 e2 : Expr} {ta : TA} {p pos tpos : Pos} {elts : List Expr} {kk : Nat} (hg : Gl X "zip") (hm : X.mg "zip" = none) (ha : PA X [e1, e2] ta)
    (hs : starEach [e1, e2] X.env = (false, eval e1 X.env) :: starEach [e2] X.env := by rfl) (hp : (backTo pos (starEach [e2] X.env)).any (·.1) = false := by rfl) : PI X (.Tuple elts kk tpos) (.Call (.Name "zip" p) [e1, e2] [] pos) (iZipM X.K ta) where
  run := fun pins s σ H R I h => by
    refine Call_ (ld_blt I hg hm boot_zip (callWith_type1 (thn (ha.run pos pins s σ H _ I h) fun us st ⟨xs, G, Iv, rs, q⟩ => ?_) hs hp))
    obtain ⟨a, b, ua, vb, rfl, qa, qb, q⟩ := q
    cases rs with
    | cons r1 rs =>
      cases rs with
      | cons r2 rs =>
        cases rs
        cases r1
        cases r2
        obtain ⟨ia, ra, ta', -⟩ := Iv.tuple qa
        obtain ⟨ib, rb, lb, -⟩ := Iv.list qb
        obtain ⟨oa, ga, -⟩ := id ta'
        have al := Heap.lt_size ga
        refine zip_begins2 (begins_tuple a ia.toArray) (begins_list b ib.toArray) ta' lb.isList fun g z1 T1 O1 g1 g2 hs kp => wpAny_pyIter_zip z1 ?_
        have I2 : Inv X pins σ G { st with heap := g } := Iv.kept (t' := st.toks) kp
        refine ⟨_, [st.heap.objs.size + 4, st.heap.objs.size + 2, st.heap.objs.size + 3, st.heap.objs.size, st.heap.objs.size + 1], _, _, G, rfl, I2, turn_zipM (PySem.W.ktu_apart st.heap.objs.size a b al lb.lt), ⟨z1, T1, ⟨_, _, O1⟩, ⟨_, g1, rfl, rfl⟩, ⟨_, g2, rfl, rfl⟩⟩, fun c hc => ?_, q⟩
        have cl : st.heap.objs.size ≤ c := by
          rcases in5 hc with rfl | rfl | rfl | rfl | rfl <;> first | exact Nat.le_refl _ | exact Nat.le_add_right _ _
        exact Iv.fpOk cl (Iv.hok.fresh cl)
section
variable {K : PySem.W.Frag} {σ : L2.St} {H : Hp} {te : TE} {ta : TA} {P a b : Addr} {us xs : List V} {okc : Nat → (Nat → V) → V → Prop} {vals : Nat → V} {r : V} {j j2 : Nat} {vs : List Nat}
theorem ev_gxM {n : Nat} (h : EvA ta σ H [.ref a, .ref b]) (ha : SqT K H a us) (hb : SqL K H b xs) (hn : n = us.length) (hl : us.length ≤ xs.length) (hT : Tab H P) (ok : okc n vals r) (hw : ∀ x y, wipe (((wipe σ vs).set j (some x)).set j2 (some y)) vs = wipe σ vs)
    (he : ∀ (i : Nat) (x y : V) H1, Ex H H1 → us[i]? = some x → xs[i]? = some y → Ev te (((wipe σ vs).set j (some x)).set j2 (some y)) H1 (vals i)) : Ev (tGX P okc (iZipM K ta) (gTup K 2 (gCons (gName j) (gCons (gName j2) gNil))) te vs) σ H r := fun H1 e Q q =>
  h H1 e _ fun H2 e2 => by
    have s1 : ∀ {B : Hp}, Ex H2 B → SqT K B a us := fun w => ex_t ((e.trans e2).trans w) ha
    have s2 : ∀ {B : Hp}, Ex H2 B → SqL K B b xs := fun w => ex_l ((e.trans e2).trans w) hb
    refine ⟨a, b, us, xs, rfl, s1 (Ex.refl _), s2 (Ex.refl _), hT.mono (e.trans e2), n, vals, r, fun _ B => Ex H2 B, ok, Ex.refl _, fun i B hi w => ⟨⟨us, xs, us[i]'(by omega), xs[i]'(by omega), s1 w, s2 w, List.getElem?_eq_getElem _, List.getElem?_eq_getElem _⟩, fun x B2 hz => ?_⟩, fun B w => ⟨us, xs, s1 w, s2 w, by omega, by omega, .inl hn⟩, fun i B _ w => q B (e2.trans w)⟩
    obtain ⟨T, x1, y1, rfl, hT1, rfl, h1, h2⟩ := hz
    have e3 := ((e.trans e2).trans w).trans (Ex.new (o := .tup [x1, y1]) hT1)
    exact ⟨T, _, rfl, st_of upd_same, rfl, _, _, rfl, _, _, rfl, rfl, hw x1 y1, he i x1 y1 _ e3 (h1 us (s1 w)) (h2 xs (s2 w)) _ (Ex.refl _) _ fun B4 e4 => ⟨rfl, (w.trans (Ex.new hT1)).trans e4⟩⟩
end
/-! ### a, *b = a tuple -/
section
variable {X : Cx} {pos : Pos}
theorem pgs_star {t : Expr} {es : List Expr} {g : TG} {u : TGs} {p : Pos} (h1 : PG X t g) (h2 : PGs X es u) (hs : (assignEach (.Starred t p :: es) X.env).map (·.2) = assign t X.env :: (assignEach es X.env).map (·.2) := by rfl) : PGs X (.Starred t p :: es) (gCons g u) where
  run := fun pins s σ H vs us Q I r h => by
    obtain ⟨v, vr, rfl, h⟩ := h
    cases r with
    | cons r rr =>
      rw [hs]
      exact assignInOrder_cons (thn (h1.run pins s σ H _ _ _ I r h) fun _ s1 ⟨σ1, H1, I1, q1⟩ => h2.run pins s1 σ1 H1 _ _ Q I1 rr q1)
/-- one name, then the rest as a new list -/
def gStar (K : PySem.W.Frag) (t : TGs) : TG := fun v σ H Q => ∃ a x xs, v = .ref a ∧ SqT K H a (x :: xs) ∧ xs.length ≤ 10000 ∧ ∀ L, H L = none → t [x, .ref L] σ (upd H L (.lst xs)) Q
theorem pg_star {es : List Expr} {k : Nat} {t : TGs} (hc : X.calm = true) (h : PGs X es t) (hn : (assignEach es X.env).length = 2 := by rfl) (hst : (assignEach es X.env).findIdx? (·.1) = some 1 := by rfl) : PG X (.Tuple es k pos) (gStar X.K t) where
  run := fun pins s σ H v u Q I r hw => by
    obtain ⟨a, x, xs, rfl, hq, hz, hw⟩ := hw
    cases r
    obtain ⟨its, rv, ht, -⟩ := I.tuple hq
    have hh : X.A.handled = none := I.ok.hd hc
    have ht : IsTup s.heap a its.toArray := ht
    cases rv with
    | @cons _ y _ ys r1 rs =>
      have ln := rs.length
      rw [assign_Tuple]
      refine wpAny_bind (wpAny_standAt (?_ : wpAny _ _ (unpack _ _) _ _ _))
      unfold unpack
      rw [hn, hst]
      obtain ⟨ao, hao, -⟩ := id ht
      have al := Heap.lt_size hao
      have ane : a ≠ s.heap.objs.size := Nat.ne_of_lt al
      refine wpAny_bind (wpAny_holding (?_ : wpAny _ _ (unpackItems _ _ _) _ _ _))
      unfold unpackItems notIterableAtAll
      refine wpAny_bind (wpAny_bind (wpAny_specialOf ht.typeIs slot_tuple_iter.lookup (wpAny_pure ?_)))
      simp only [Option.isSome_some, if_true, if_false, Bool.false_eq_true]
      refine wpAny_bind (wpAny_holding (iter_tuple ht (?_ : _)))
      refine wpAny_bind (wpAny_holding (draw_tuple ane 1 0 _ _ ⟨_, Heap.get?_push_size _ rfl, rfl, rfl⟩ (ht.push _) (by simp) fun g1 t1 s1 => ?_))
      have ht1 : IsTup g1 a (y :: ys).toArray := (ht.push _).extBut s1.extBut ane
      obtain ⟨o1, ho1, -⟩ := id t1
      obtain ⟨o2, ho2, -⟩ := id ht1
      rw [show List.take 1 (List.drop 0 (y :: ys).toArray.toList) = [y] from rfl, if_neg (show ¬ [y].length < 1 from Nat.lt_irrefl 1)]
      refine wpAny_bind (wpAny_holding (PySem.W.kun_collect (s := { s with heap := g1 }) (T := "tuple_iterator") (.inr (.inr (.inr rfl))) (Walks.tuple (A := X.A.in1) (show X.A.in1.handled = none from hh) s.heap.objs.size a ane (y :: ys).toArray) (fun _ _ q => q.1.typeIs) (k := 1) (by simp) ⟨t1, ht1⟩ (Heap.lt_size ho1) (Heap.lt_size ho2) (fun g2 tk kp => ?_) (by simp; exact sz_of (by omega))))
      rw [show (y :: ys).toArray.toList.drop 1 = ys from rfl]
      rw [if_neg (show ¬ ys.length < 2 - 1 - 1 by omega)]
      have k2 : ∀ b o, s.heap.get? b = some o → g2.get? b = some o := fun b o e => by
        have bl := Heap.lt_size e
        exact kp b o (Nat.ne_of_lt bl) (s1.extBut b o (Nat.ne_of_lt bl) (Heap.get?_push_of_some _ e))
      have I2 : Inv X pins σ H { s with heap := g2, toks := tk } := I.kept (t' := tk) k2
      rw [show ys.length - (2 - 1 - 1) = ys.length from rfl, List.take_length, List.drop_length]
      refine wpAny_bind (m := newList ys) (wpAny_newObj_type (T := "list") ?_ (by show ys.toArray.size ≤ sizeLine; rw [List.size_toArray]; exact sz_of (by omega)))
      refine wpAny_pure ?_
      have fr : H g2.objs.size = none := I2.hok.fresh (Nat.le_refl _)
      have I3 : Inv X pins σ (upd H g2.objs.size (.lst xs)) { s with heap := g2.push { cls := .type "list", data := .seq ys.toArray }, toks := tk } := I2.laid (t' := tk) (fun b u e => Heap.get?_push_of_some _ e) (Nat.le_refl _) ⟨sz_of (by omega), ys, 0, rs, Heap.get?_push_size _ rfl⟩
      exact h.run pins _ σ _ [x, .ref _] [y, .ref _] Q I3 (.cons r1 (.cons rfl .nil)) (hw _ fr)
end
end LZ

set_option Elab.async false
set_option linter.all false
set_option maxRecDepth 100000
set_option maxHeartbeats 4000000
namespace LW
open PySem PySem.Spec PyProof.Rows L2 Evl LT
/-! ### a written dict: numbers to tuples of texts -/
def strsB : List Value → List Str → Bool
  | [], [] => true
  | .str x _ :: us, z :: zs => decide (x = z) && strsB us zs
  | _, _ => false
theorem strsB_ok : ∀ {us : List Value} {zs : List Str}, strsB us zs = true → Vals (zs.map V.str) us
  | [], [], _ => .nil
  | .str x t :: us, z :: zs, h => by
    have h2 := Bool.and_eq_true_iff.mp (show (decide (x = z) && strsB us zs) = true from h)
    obtain rfl : x = z := of_decide_eq_true h2.1
    exact .cons ⟨t, rfl⟩ (strsB_ok h2.2)
def tupB (K : PySem.W.Frag) (v : Value) (zs : List Str) : Bool := match v with
  | .ref t => match K.lookup t with
    | some o => decide (o.cls = .type "tuple") && match o.data with
      | .seq its _ => decide (its.size ≤ 1000) && strsB its.toList zs
      | _ => false
    | none => false
  | _ => false
theorem tupB_ok {K : PySem.W.Frag} {v : Value} {zs : List Str} (h : tupB K v zs = true) : ∃ t, v = .ref t ∧ ∀ H, SqT K H t (zs.map V.str) := by
  unfold tupB at h
  split at h
  · rename_i t
    split at h
    · rename_i o ho
      obtain ⟨h1, h⟩ := Bool.and_eq_true_iff.mp h
      split at h
      · rename_i its n hd
        obtain ⟨h2, h3⟩ := Bool.and_eq_true_iff.mp h
        exact ⟨t, rfl, fun H => .inr ⟨o, its, n, ho, of_decide_eq_true h1, hd, Nat.le_trans (of_decide_eq_true h2) (by decide), strsB_ok h3⟩⟩
      · cases h
    · cases h
  · cases h
abbrev Wks := List (Int × List Str)
def getW (kvs : Wks) (i : Int) : Option (List Str) := (kvs.find? fun kv => decide (kv.1 = i)).map (·.2)
def entsB (K : PySem.W.Frag) : List DictEntry → Wks → Bool
  | [], [] => true
  | e :: es, kv :: kvs => Value.isInt kv.1 e.key && (decide (e.hash = hashInt kv.1) && (tupB K e.val kv.2 && entsB K es kvs))
  | _, _ => false
def dictB (K : PySem.W.Frag) (a : Addr) (kvs : Wks) : Bool := match K.lookup a with
  | some o => decide (o.cls = .type "dict") && (o.dict.isNone && (o.slots.isEmpty && (!(a == sysModules) && match o.data with
    | .dict es _ => entsB K es.toList kvs
    | _ => false)))
  | none => false
structure WI (K : PySem.W.Frag) (a : Addr) (kvs : Wks) : Prop where
  ok : dictB K a kvs = true
  nd : (kvs.map (·.1)).Nodup
theorem ents_ok {P : Program} {w : World} {K : PySem.W.Frag} : ∀ {es : List DictEntry} {kvs : Wks}, entsB K es kvs = true → ∃ vs : List (Key × Value), (∀ e ∈ es, ∃ k, (mixKind P w).is k e.key = true ∧ e.hash = (mixKind P w).hash k) ∧ Pairs (mixKind P w) es vs ∧ vs.map (·.1) = kvs.map (fun kv => (Sum.inl kv.1 : Key)) ∧
    ∀ i : Int, (getW kvs i = none ∧ valueAt vs (.inl i) = none) ∨ ∃ zs t, getW kvs i = some zs ∧ valueAt vs (.inl i) = some (.ref t) ∧ ∀ H, SqT K H t (zs.map V.str)
  | [], [], _ => ⟨[], fun e he => (by cases he), .nil, rfl, fun i => .inl ⟨rfl, rfl⟩⟩
  | e :: es, kv :: kvs, h => by
    obtain ⟨h1, h⟩ := Bool.and_eq_true_iff.mp (show (Value.isInt kv.1 e.key && (decide (e.hash = hashInt kv.1) && (tupB K e.val kv.2 && entsB K es kvs))) = true from h)
    obtain ⟨h2, h⟩ := Bool.and_eq_true_iff.mp h
    obtain ⟨h3, h⟩ := Bool.and_eq_true_iff.mp h
    obtain ⟨vs, v1, v2, v3, v4⟩ := ents_ok (P := P) (w := w) h
    obtain ⟨t, ht, hq⟩ := tupB_ok h3
    have hk : (mixKind P w).is (Sum.inl kv.1) e.key = true := h1
    refine ⟨(.inl kv.1, e.val) :: vs, fun x hx => ?_, .cons hk rfl v2, by rw [List.map_cons, List.map_cons, v3], fun i => ?_⟩
    · rcases List.mem_cons.mp hx with rfl | hx
      · exact ⟨_, hk, of_decide_eq_true h2⟩
      · exact v1 x hx
    · unfold getW valueAt at *
      by_cases c : kv.1 = i
      · subst c
        refine .inr ⟨kv.2, t, by rw [List.find?_cons_of_pos (by simp)]; rfl, ?_, hq⟩
        rw [List.find?_cons_of_pos (by simp), ← ht]
        rfl
      · rw [List.find?_cons_of_neg (by simpa using c), List.find?_cons_of_neg (by simpa using fun e : (Sum.inl kv.1 : Key) = Sum.inl i => c (Sum.inl.inj e))]
        exact v4 i
theorem nodup_inl {l : Wks} (h : (l.map (·.1)).Nodup) : (l.map (fun kv => (Sum.inl kv.1 : Key))).Nodup := by
  have : l.map (fun kv => (Sum.inl kv.1 : Key)) = (l.map (·.1)).map Sum.inl := by rw [List.map_map]; rfl
  rw [this]
  exact List.pairwise_map.mpr (h.imp fun a b => a (Sum.inl.inj b))
theorem wi_dd {X : Cx} {d : Addr} {kvs : Wks} (D : WI X.K d kvs) {pins : List (Addr × Obj)} {σ : L2.St} {H : Hp} {s : Shared} (I : Inv X pins σ H s) : (d == sysModules) = false ∧ ∃ vs : List (Key × Value), s.heap.DictOf (mixKind X.prog X.w) d vs ∧
    ∀ i : Int, (getW kvs i = none ∧ valueAt vs (.inl i) = none) ∨ ∃ zs t, getW kvs i = some zs ∧ valueAt vs (.inl i) = some (.ref t) ∧ ∀ H, SqT X.K H t (zs.map V.str) := by
  have h := D.ok
  unfold dictB at h
  split at h
  · rename_i o ho
    obtain ⟨h1, h⟩ := Bool.and_eq_true_iff.mp h
    obtain ⟨h2, h⟩ := Bool.and_eq_true_iff.mp h
    obtain ⟨h3, h⟩ := Bool.and_eq_true_iff.mp h
    obtain ⟨h4, h⟩ := Bool.and_eq_true_iff.mp h
    split at h
    · rename_i es n hd
      obtain ⟨vs, v1, v2, v3, v4⟩ := ents_ok (P := X.prog) (w := X.w) h
      refine ⟨by simpa using h4, vs, ⟨o, es, n, I.kIn _ _ ho, ⟨of_decide_eq_true h1, by simpa using h2, by simpa using h3⟩, hd, fun e he => v1 e (Array.mem_toList_iff.mpr he), v2, by rw [v3]; exact nodup_inl D.nd⟩, v4⟩
    · cases h
  · cases h
def rNiW (K : PySem.W.Frag) : R2 := fun x y H Q => ∃ (i : Int) (d : Addr) (kvs : Wks), x = .int i ∧ y = .ref d ∧ WI K d kvs ∧ Q (.bl (!(getW kvs i).isSome)) H
def rIxW (K : PySem.W.Frag) : R2 := fun x y H Q => ∃ (i : Int) (d : Addr) (kvs : Wks) (zs : List Str), x = .ref d ∧ y = .int i ∧ WI K d kvs ∧ getW kvs i = some zs ∧ ∀ t, (∀ H', SqT K H' t (zs.map V.str)) → Q (.ref t) H
section
variable {X : Cx}
theorem op_notIn_wi : OpR X (compareOp .NotIn) (rNiW X.K) := by
  rintro pins s σ H x y v u Q I rx ry ⟨i, d, kvs, rfl, rfl, D, q⟩
  obtain ⟨lo, vs, dd, hv⟩ := wi_dd D I
  cases ry
  refine wpAny_notIn_of (kV_is (k := Sum.inl i) rx) lo dd.mapOf ?_
  have e : (valueAt vs (Sum.inl i : Key)).isSome = (getW kvs i).isSome := by
    rcases hv i with ⟨a, b⟩ | ⟨zs, t, a, b, _⟩ <;> rw [a, b] <;> rfl
  rw [e]
  exact ⟨.bl _, H, I.tok _, rfl, q⟩
theorem ix_wi : IxR X (rIxW X.K) := by
  rintro value slice pins s σ H x y v u Q I rx ry ⟨i, d, kvs, zs, rfl, rfl, D, hz, q⟩ hs
  obtain ⟨lo, vs, dd, hv⟩ := wi_dd D I
  cases rx
  rcases hv i with ⟨a, _⟩ | ⟨zs', t, a, b, hq⟩
  · rw [hz] at a
    cases a
  · rw [hz] at a
    cases a
    exact tail_any dd.mapOf.typeIs PySem.F.slot_dict_getitem.lookup (wpAny_getItem_of (kV_is (k := Sum.inl i) ry) dd.mapOf b ⟨.ref t, H, I.tok _, rfl, q t hq⟩) hs
end
section
variable {K : PySem.W.Frag} {H : Hp} {i : Int} {d : Addr} {kvs : Wks}
theorem rv_niW (D : WI K d kvs) : RV (rNiW K) (.int i) (.ref d) H (.bl (!(getW kvs i).isSome)) := rv_val fun _ _ Q q => ⟨i, d, kvs, rfl, rfl, D, q⟩
end
/-! ### any(a list of numbers) -/
def anyN (ns : List Int) : Bool := (List.range ns.length).any fun i => !decide (ns.getD i 0 = 0)
def rAnyN (K : PySem.W.Frag) : List V → Hp → VK → Prop := fun vs H Q => ∃ (a : Addr) (ns : List Int), vs = [V.ref a] ∧ SqL K H a (ns.map V.int) ∧ Q (.bl (anyN ns)) H
theorem truth_ints {prog : Program} {w : World} {A : Around} {ns : List Int} {its : List Value} (e : Vals (ns.map V.int) its) : TruthOf prog w A (fun i v => its.toArray[i]? = some v) (fun i => !decide (ns.getD i 0 = 0)) := fun i v s Q E hv hq => by
  have hv' : its[i]? = some v := by simpa using hv
  have hl : i < ns.length := by
    have h1 := (List.getElem?_eq_some_iff.mp hv').1
    have h2 := e.length
    rw [List.length_map] at h2
    omega
  obtain ⟨u, hu, ru⟩ := e.get (show (ns.map V.int)[i]? = some (.int ns[i]) by rw [List.getElem?_map, List.getElem?_eq_getElem hl]; rfl)
  rw [hv'] at hu
  cases hu
  obtain ⟨t, rfl⟩ := (show ∃ t, v = Value.int ns[i] t from ru)
  have hg : ns.getD i 0 = ns[i] := by rw [List.getD_eq_getElem?_getD, List.getElem?_eq_getElem hl]; rfl
  have hq' : Q (!decide (ns.getD i 0 = 0)) s := hq
  rw [hg] at hq'
  refine PySem.P.truthy_int ?_
  rw [show (ns[i] != 0) = !decide (ns[i] = 0) by rw [Bool.eq_iff_iff]; simp]
  exact hq'
theorem cr_anyN {X : Cx} (hc : X.calm = true) : CallR X (.builtin "any") (rAnyN X.K) := by
  rintro pins s σ H vs us Q I r ⟨a, ns, rfl, hs, q⟩
  obtain ⟨its, rv, hl, -⟩ := I.list hs
  rw [Vals.ref1 r]
  refine call_any_walk (iter_any hl.isList fun s2 e2 st hne => ?_)
  subst e2
  refine ⟨_, _, _, _, _, _, _, rfl, Walks.list (A := X.A.in1) (I.ok.hd hc) _ a hne its.toArray, st, truth_ints rv, fun h' tk hk => ⟨.bl _, H, I.kept fun b o eo => hk b o (fun hm => ?_) (Heap.get?_push_of_some _ eo), ?_, q⟩⟩
  · rcases List.mem_cons.mp hm with e1 | hm
    · exact absurd (e1 ▸ Heap.lt_size eo) (Nat.lt_irrefl _)
    · cases hm
  · show Value.bool _ = Value.bool _
    have h2 := rv.length
    rw [List.length_map] at h2
    unfold anyN
    rw [List.size_toArray, h2]
theorem ev_anyN {K : PySem.W.Frag} {σ : L2.St} {H : Hp} {te : TE} {ns : List Int} (h : EvL te σ H (ns.map V.int)) : Ev (tCB (rAnyN K) (tCons te tNil)) σ H (.bl (anyN ns)) := fun H1 e Q q => h H1 e _ fun p H2 _ e2 h2 => ⟨p, ns, rfl, sq_of h2, q H2 e2⟩
theorem anyN_zero (n : Nat) : anyN (List.replicate n 0) = false := by
  unfold anyN
  rw [List.any_eq_false]
  intro i hi
  rw [List.mem_range, List.length_replicate] at hi
  simp [List.getD_eq_getElem?_getD, hi]
end LW

set_option Elab.async false
set_option linter.all false
set_option maxRecDepth 100000
set_option maxHeartbeats 4000000
namespace HE
open PySem PySem.Spec PyProof.Rows L2 Evl LT
/-! ### the head by facts: defs, their code objects, the walk's end -/
theorem fun_of {K : PySem.W.Frag} {x qual : Str} {st : Stmt} {f : Addr} {fd : FuncData} (F : FunD K x qual (defArgs st) (defBody st) (defScope st) [] [] f fd) : Fun K x qual st f fd := by
  obtain ⟨oc, od, dV, kV, doc, pm, an, cdv, ct, osl, rfl, lk, hcd, hd, _⟩ := F.ex
  have e : dV = .none := by
    rcases hd with ⟨_, h⟩ | ⟨h, _⟩
    · exact h
    · exact absurd rfl h
  subst e
  exact ⟨⟨oc, od, kV, doc, pm, an, cdv, ct, osl, rfl, lk, hcd⟩, F.kp⟩
theorem funC_of {K : PySem.W.Frag} {x qual : Str} {st : Stmt} {p : He.Defn} {fd : FuncData} (F : Fun K x qual st (He.fAd K p) fd) : LS.FunC K x qual st (He.fAd K p) fd (He.codeOf K p) := by
  obtain ⟨oc, od, kV, doc, pm, an, cdv, ct, osl, rfl, lk, hcd⟩ := F.ex
  obtain ⟨c, rfl⟩ := He.codeIn_ref hcd
  have e : He.codeOf K p = c := He.codeOf_eq lk rfl
  rw [e]
  exact ⟨⟨oc, od, kV, doc, pm, an, ct, osl, rfl, lk, hcd⟩, F.kp⟩
/-- what the Bool ex tells of the classes -/
def eqS (a b : Option (Option Value)) : Bool := decide (a = b)
theorem eqS_ok {a b : Option (Option Value)} (h : eqS a b = true) : a = b := of_decide_eq_true h
def dictC (K : PySem.W.Frag) (x : Str) : Bool := PySem.W.hasDictIn K (He.ga K x)
def subC (K : PySem.W.Frag) (x y : Str) (b : Bool) : Bool := decide (PySem.W.subIn K (.ref (He.ga K x)) (.ref (He.ga K y)) = some b)
theorem subC_ok {K : PySem.W.Frag} {x y : Str} {b : Bool} (h : subC K x y b = true) : PySem.W.subIn K (.ref (He.ga K x)) (.ref (He.ga K y)) = some b := of_decide_eq_true h
def excC (K : PySem.W.Frag) (x : Str) : Bool := eqS (PySem.W.findIn K (.ref (He.ga K x)) "__getattribute__") (some (some (.builtin "BaseException.__getattribute__"))) && (eqS (PySem.W.findIn K (.ref (He.ga K x)) "__getattr__") (some none) &&
  (decide (PySem.W.subIn K (.ref (He.ga K x)) (.type "BaseException") = some true) && (PySem.W.hasDictIn K (He.ga K x) && (eqS (PySem.W.findIn K (.ref (He.ga K x)) "__class__") (some (some (.builtin "object.__class__"))) &&
  (eqS (PySem.W.specialIn K (.builtin "object.__class__") "__get__") (some (some (.builtin "getset_descriptor.__get__"))) && (decide (PySem.W.takesIn K (.builtin "object.__class__") = some true) && decide (PySem.W.mroIn K (He.ga K x) (.type "object") = some true)))))))
theorem excC_ok {K : PySem.W.Frag} {x : Str} (h : excC K x = true) : ExcC K (He.ga K x) := by
  obtain ⟨h1, h⟩ := He.ba h
  obtain ⟨h2, h⟩ := He.ba h
  obtain ⟨h3, h⟩ := He.ba h
  obtain ⟨h4, h⟩ := He.ba h
  obtain ⟨h5, h⟩ := He.ba h
  obtain ⟨h6, h⟩ := He.ba h
  obtain ⟨h7, h8⟩ := He.ba h
  exact ⟨eqS_ok h1, eqS_ok h2, of_decide_eq_true h3, h4, eqS_ok h5, eqS_ok h6, of_decide_eq_true h7, of_decide_eq_true h8⟩
theorem xc_of {K : PySem.W.Frag} {h : Heap} {mg : Str → Option Value} {x : Str} (X : K.In h) (G : h.Ns mainGlobals mg) (g : (He.Fa.glo x).ok K = true) (c : (He.Fa.exc x).ok K = true) (d : dictC K x = true) : LX.Xc K mg x (He.ga K x) := by
  obtain ⟨h1, h2, h3, h4⟩ := He.exc_ok c
  exact ⟨He.glo_ok X G g, h1, h2, h3, h4, d⟩
theorem binds1 {K : PySem.W.Frag} {x qual y : Str} {st : Stmt} {f : Addr} {fd : FuncData} (F : Fun K x qual st f fd) (h : ∀ (kV doc pm : Value) (an : Option Addr) (cdv ct : Value) (u : Value), bindArgs (PySem.W.fnOf x qual (defArgs st) (defBody st) (defScope st) .none kV doc pm an cdv ct) ⟨[u], []⟩ = pure [(y, u)]) (s : Shared) (u : Value) : BindsTo s fd ⟨[u], []⟩ [(y, u)] := by
  obtain ⟨oc, od, kV, doc, pm, an, cdv, ct, osl, rfl, lk, hcd⟩ := F.ex
  exact .of_eq (h kV doc pm an cdv ct u)
/-- the walk, tables of any defs (methods too) -/
theorem walk_facts {l : PySem.W.OpenLaw} {n k : Nat} {q : Program} {loose : List Str} {XP : (Str → Option Value) → Heap → Prop} {YP : World → Heap → Prop} {d : DefRec} {x : Str}
    (hn : l.most = some n) (hn2 : n ≤ sizeLine) (hdf : d.params.defaults = []) (hr : Room k callerA)
    (F : ∀ (w : World) (mg : Str → Option Value) (fa : Addr) (h : Heap), YP w h → h.Ns mainGlobals mg → mg d.name = some (.ref fa) →
      ∃ (K : PySem.W.Frag) (fd : FuncData) (cs : List (Addr × Addr)) (sp : Sp), K.In h ∧ (∀ p ∈ cs, h.get? p.2 = some { cls := .none, data := .fields #[] } ∧ K.lookup p.2 = none ∧ PySem.W.CodeHd h p.1 p.2) ∧ (∀ (s : Shared) (u : Value), BindsTo s fd ⟨[u], []⟩ [(x, u)]) ∧
        (∀ (H : Hp) (a : Addr) (ns : List Int), ns.length ≤ n → (∀ p ∈ cs, Tab H p.2) → SqL K H a (ns.map V.int) → ∀ Q : VK, (∀ H', Ex H H' → Q (.bl true) H') → sp [.ref a] H Q fun _ _ _ => False) ∧
        ∀ base : Heap, K.In base → base.Ns mainGlobals mg → (∀ p ∈ cs, LamX.TabB base mg p.1 p.2) → FnOk l.prog w K mg base CX0 k fa fd [x] sp) :
    PySem.W.WalkO q loose XP YP l.row.toRowW d [] (fun f vs => PySem.call f vs) := by
  refine LamX.walk_ofTsE (x := x) (CX := fun _ => CX0) hn hn2 hdf hr (fun w mg fa h Y G hmg => ?_) (fun _ _ _ _ _ z => z)
  obtain ⟨K, fd, cs, sp, KX, hcs, hb, hsp, hF⟩ := F w mg fa h Y G hmg
  refine ⟨K, KX, fd, cs, spExt (cs.map fun p => p.2) sp, fun p hp => (hcs p hp).1, fun p hp => (hcs p hp).2.1, fun p hp => (hcs p hp).2.2, hb, fun H a ns hlen _ hH hS => ⟨fun b hb => ?_, ?_⟩, fun base h1 h2 h3 => ok_ext (hF base h1 h2 h3)⟩
  · obtain ⟨p, hp, rfl⟩ := List.mem_map.mp hb
    exact hH p hp
  · have hnt : ∀ p ∈ cs, extH (cs.map fun p => p.2) H p.2 = some (.ext (TabPhi p.2)) := fun p hp => extH_in (List.mem_map.mpr ⟨p, hp, rfl⟩)
    refine hsp _ a ns hlen hnt ?_ _ fun H' e => ⟨fun b hb => ?_, fun _ => rfl⟩
    · have out : ∀ {u : HO}, H a = some u → (∀ ts, u ≠ .tbl ts) → extH (cs.map fun p => p.2) H a = some u := fun {u} h1 h2 => by
        rw [extH_out fun hb => ?_]
        · exact h1
        · obtain ⟨p, hp, e⟩ := List.mem_map.mp hb
          have := hH p hp
          have e : p.2 = a := e
          rw [e, h1] at this
          cases this
          exact h2 _ rfl
      rcases hS with (h1 | ⟨o, h1⟩) | h1
      · exact .inl (.inl (out h1 fun _ z => by cases z))
      · exact .inl (.inr ⟨o, out h1 fun _ z => by cases z⟩)
      · exact .inr h1
    · obtain ⟨p, hp, rfl⟩ := List.mem_map.mp hb
      exact e _ _ (hnt p hp)
end HE

set_option Elab.async false
set_option linter.all false
set_option maxRecDepth 100000
set_option maxHeartbeats 4000000
namespace LK
open PySem PySem.Spec PyProof.Rows L2 Evl

/-! ### data that == serves -/
def Sh (n : Nat) (d : PyData) : Prop := d.canLay0 = true ∧ d.depth ≤ n
theorem sh_int (i : Int) (n : Nat := 0) : Sh n (.int i) := ⟨by simp [PyData.canLay0], by simp [PyData.depth]⟩
theorem sh_bool (b : Bool) (n : Nat := 0) : Sh n (.bool b) := ⟨by simp [PyData.canLay0], by simp [PyData.depth]⟩
theorem sh_none (n : Nat := 0) : Sh n .none := ⟨by simp [PyData.canLay0], by simp [PyData.depth]⟩
theorem sh_all {n : Nat} : ∀ {ds : List PyData}, (∀ d ∈ ds, Sh n d) → PyData.canLayAll0 ds = true ∧ PyData.depthAll ds ≤ n
  | [], _ => ⟨by simp [PyData.canLayAll0], by simp [PyData.depthAll]⟩
  | d :: ds, h => by
    obtain ⟨h1, h2⟩ := h d List.mem_cons_self
    obtain ⟨h3, h4⟩ := sh_all fun e he => h e (List.mem_cons_of_mem _ he)
    refine ⟨?_, ?_⟩
    · rw [PyData.canLayAll0, h1, h3]
      rfl
    · rw [PyData.depthAll]
      omega
theorem sh_tup {n : Nat} {ds : List PyData} (h : ∀ d ∈ ds, Sh n d) : Sh (n + 1) (.tuple ds) := by
  obtain ⟨h1, h2⟩ := sh_all h
  refine ⟨?_, ?_⟩
  · rw [PyData.canLay0]
    exact h1
  · rw [PyData.depth]
    omega
theorem sh_lst {n : Nat} {ds : List PyData} (h : ∀ d ∈ ds, Sh n d) : Sh (n + 1) (.list ds) := by
  obtain ⟨h1, h2⟩ := sh_all h
  refine ⟨?_, ?_⟩
  · rw [PyData.canLay0]
    exact h1
  · rw [PyData.depth]
    omega
theorem Sh.up {n m : Nat} {d : PyData} (h : Sh n d) (e : n ≤ m) : Sh m d := ⟨h.1, Nat.le_trans h.2 e⟩
theorem Sh.shaped {n : Nat} {d : PyData} (h : Sh n d) (e : n ≤ 64) : SeqAt.shaped d = true := by
  unfold SeqAt.shaped
  rw [h.1, decide_eq_true (Nat.le_trans h.2 e)]
  rfl
theorem Sh.refl {n : Nat} {d : PyData} (h : Sh n d) : PyData.eqv d d = true := SeqAt.eqv_refl d h.1
theorem sh_ints (ns : List Int) : ∀ d ∈ ns.map PyData.int, Sh 0 d := fun d hd => by
  obtain ⟨i, _, rfl⟩ := List.mem_map.mp hd
  exact sh_int i
section
variable {K : PySem.W.Frag} {H H' : Hp}
theorem dp_ints : ∀ ns : List Int, DpAll K H (ns.map V.int) (ns.map PyData.int)
  | [] => .nil
  | n :: r => .cons (.int n) (dp_ints r)
mutual
theorem dp_mono (e : Ex H H') : ∀ {v : V} (d : PyData), Dp K H v d → Dp K H' v d
  | _, .none, h => by cases h; exact .non
  | _, .bool b, h => by cases h; exact .bl b
  | _, .int i, h => by cases h; exact .int i
  | _, .str x, h => by cases h; exact .str x
  | _, .list ds, h => by
    cases h with
    | lst h1 h2 => exact .lst (ex_l e h1) (dpa_mono e ds h2)
  | _, .tuple ds, h => by
    cases h with
    | tup h1 h2 => exact .tup (ex_t e h1) (dpa_mono e ds h2)
  | _, .dict _, h => by cases h
theorem dpa_mono (e : Ex H H') : ∀ {vs : List V} (ds : List PyData), DpAll K H vs ds → DpAll K H' vs ds
  | _, [], h => by cases h; exact .nil
  | _, d :: ds, h => by
    cases h with
    | cons h1 h2 => exact .cons (dp_mono e d h1) (dpa_mono e ds h2)
end
/-- two values of the same data: == True, != False -/
theorem rv_eqD {x y : V} {d : PyData} {n : Nat} (hx : Dp K H x d) (hy : Dp K H y d) (s : Sh n d) (hn : n ≤ 64) : RV (rEqD K) x y H (.bl true) := rv_val fun H1 e Q q =>
  ⟨d, d, dp_mono e d hx, dp_mono e d hy, s.shaped hn, s.shaped hn, by rw [s.refl]; exact q⟩
theorem rv_neD {x y : V} {d : PyData} {n : Nat} (hx : Dp K H x d) (hy : Dp K H y d) (s : Sh n d) (hn : n ≤ 64) : RV (rNeD K) x y H (.bl false) := rv_val fun H1 e Q q =>
  ⟨d, d, dp_mono e d hx, dp_mono e d hy, s.shaped hn, s.shaped hn, by rw [s.refl]; exact q⟩
/-- of any two data -/
theorem rv_neDD {x y : V} {d f : PyData} {n : Nat} (hx : Dp K H x d) (hy : Dp K H y f) (s : Sh n d) (s' : Sh n f) (hn : n ≤ 64) : RV (rNeD K) x y H (.bl (!PyData.eqv d f)) := rv_val fun H1 e Q q =>
  ⟨d, f, dp_mono e d hx, dp_mono e f hy, s.shaped hn, s'.shaped hn, q⟩
theorem rv_eqDD {x y : V} {d f : PyData} {n : Nat} (hx : Dp K H x d) (hy : Dp K H y f) (s : Sh n d) (s' : Sh n f) (hn : n ≤ 64) : RV (rEqD K) x y H (.bl (PyData.eqv d f)) := rv_val fun H1 e Q q =>
  ⟨d, f, dp_mono e d hx, dp_mono e f hy, s.shaped hn, s'.shaped hn, q⟩
theorem rv_ltT {a b : Addr} {ns ms : List Int} (ha : SqT K H a (ns.map V.int)) (hb : SqT K H b (ms.map V.int)) : RV (rLtT K) (.ref a) (.ref b) H (.bl (HT.lexLt ns ms)) := rv_val fun H1 e Q q =>
  ⟨a, b, ns, ms, rfl, rfl, ex_t e ha, ex_t e hb, q⟩
def leV (ns ms : List Int) : Bool := Ob.lexAt (fun j => decide (ns.getD j 0 = ms.getD j 0)) (fun j => decide (ns.getD j 0 ≤ ms.getD j 0)) (decide (ns.length ≤ ms.length)) 0 (min ns.length ms.length)
theorem rv_leT {a b : Addr} {ns ms : List Int} (ha : SqT K H a (ns.map V.int)) (hb : SqT K H b (ms.map V.int)) : RV (rLeT K) (.ref a) (.ref b) H (.bl (leV ns ms)) := rv_val fun H1 e Q q =>
  ⟨a, b, ns, ms, rfl, rfl, ex_t e ha, ex_t e hb, q⟩

/-! ### reading a cell of the script -/
def cellv (ns : List Int) (k : Nat) : Int := ns.getD k 0
theorem cellv_in {ns : List Int} {k : Nat} (hk : k < ns.length) : (ns.map V.int)[k]? = some (.int (cellv ns k)) := by
  rw [List.getElem?_map, List.getElem?_eq_getElem hk]
  unfold cellv
  rw [List.getD_eq_getElem?_getD, List.getElem?_eq_getElem hk]
  rfl
theorem cellv_out {ns : List Int} {k : Nat} (hk : ns.length ≤ k) : cellv ns k = 0 := by
  unfold cellv
  rw [List.getD_eq_getElem?_getD, List.getElem?_eq_none hk]
  rfl
def spCel (K : PySem.W.Frag) : Sp := fun vs H Q _ => ∃ (a : Addr) (ns : List Int) (k : Nat), vs = [.ref a, .int (k : Int)] ∧ SqL K H a (ns.map V.int) ∧ RetV (.int (cellv ns k)) H Q
theorem sv_cell {a : Addr} {ns : List Int} {k : Nat} {z : Int} (h : SqL K H a (ns.map V.int)) (e : z = (k : Int)) : SpV (spCel K) [.ref a, .int z] H (.int (cellv ns k)) := fun H1 e1 Q q E =>
  ⟨a, ns, k, by rw [e], ex_l e1 h, fun H2 e2 => q H2 e2⟩
end
end LK

namespace K23D
open PySem PySem.Spec PyProof.Rows L2 Evl LK LT LG LS LQ LX LO LN LP
def top (i : Nat) : Stmt := PySem.Challenge.pw_laminae_k23_store.main.body.getD i (.Pass ⟨0, 0, 0, 0⟩)
abbrev sIw : Stmt := top 7
theorem scIw : FnScope ["value"] ["value"] (defScope sIw) := ⟨rfl, rfl, rfl, by decide +kernel, rfl, by decide +kernel, by decide +kernel⟩
abbrev sAre : Stmt := top 8
theorem scAre : FnScope ["values", "many"] ["values", "many"] (defScope sAre) := ⟨rfl, rfl, rfl, by decide +kernel, rfl, by decide +kernel, by decide +kernel⟩
abbrev sSize : Stmt := top 15
theorem scSize : FnScope ["blocks"] ["blocks"] (defScope sSize) := ⟨rfl, rfl, rfl, by decide +kernel, rfl, by decide +kernel, by decide +kernel⟩
abbrev sInit : Stmt := inClass (top 16) 0
theorem scInit : FnScope ["self", "blocks", "_"] ["self", "blocks"] (defScope sInit) := ⟨rfl, rfl, rfl, by decide +kernel, rfl, by decide +kernel, by decide +kernel⟩
abbrev sRead : Stmt := inClass (top 16) 1
theorem scRead : FnScope ["self", "sector"] ["self", "sector"] (defScope sRead) := ⟨rfl, rfl, rfl, by decide +kernel, rfl, by decide +kernel, by decide +kernel⟩
abbrev sWrite : Stmt := inClass (top 16) 2
theorem scWrite : FnScope ["self", "sector", "words", "written"] ["self", "sector", "words"] (defScope sWrite) := ⟨rfl, rfl, rfl, by decide +kernel, rfl, by decide +kernel, by decide +kernel⟩
abbrev sFlush : Stmt := inClass (top 16) 3
theorem scFlush : FnScope ["self"] ["self"] (defScope sFlush) := ⟨rfl, rfl, rfl, by decide +kernel, rfl, by decide +kernel, by decide +kernel⟩
abbrev sWait : Stmt := inClass (top 16) 4
theorem scWait : FnScope ["self", "sector", "words"] ["self"] (defScope sWait) := ⟨rfl, rfl, rfl, by decide +kernel, rfl, by decide +kernel, by decide +kernel⟩
abbrev sImg : Stmt := inClass (top 16) 7
theorem scImg : FnScope ["self", "words"] ["self"] (defScope sImg) := ⟨rfl, rfl, rfl, by decide +kernel, rfl, by decide +kernel, by decide +kernel⟩
abbrev sSec : Stmt := inClass (top 16) 9
theorem scSec : FnScope ["self", "sector"] ["self", "sector"] (defScope sSec) := ⟨rfl, rfl, rfl, by decide +kernel, rfl, by decide +kernel, by decide +kernel⟩
abbrev sBeg : Stmt := inClass (top 16) 10
theorem scBeg : FnScope ["self"] ["self"] (defScope sBeg) := ⟨rfl, rfl, rfl, by decide +kernel, rfl, by decide +kernel, by decide +kernel⟩
abbrev sSet : Stmt := inClass (top 16) 11
theorem scSet : FnScope ["self", "choices", "sector", "words", "many"] ["self", "choices"] (defScope sSet) := ⟨rfl, rfl, rfl, by decide +kernel, rfl, by decide +kernel, by decide +kernel⟩
structure Txt (mg : Str → Option Value) (K : PySem.W.Frag) (C : Addr) : Prop where
  len : mg "len" = none
  range : mg "range" = none
  list : mg "list" = none
  isinstance : mg "isinstance" = none
  zip : mg "zip" = none
  int : mg "int" = none
  bool : mg "bool" = none
  all : mg "all" = none
  gMIN_BLOCKS : ∃ t, mg "MIN_BLOCKS" = some (.int 96 t)
  gMAX_BLOCKS : ∃ t, mg "MAX_BLOCKS" = some (.int 256 t)
  gSECTOR_WORDS : ∃ t, mg "SECTOR_WORDS" = some (.int 8 t)
  gBLOCK_SECTORS : ∃ t, mg "BLOCK_SECTORS" = some (.int 4 t)
  cl : Cls K C
  nb : NoAttr K C "blocks"
  nk : NoAttr K C "_kept"
  ns : NoAttr K C "_shown"
  nw : NoAttr K C "_writes"
  np : NoAttr K C "_powered"
  nf : NoAttr K C "_before_failure"
  mgC : mg "Disk" = some (.ref C)
/-! ### values of a known kind -/
inductive Kd (H : Hp) : V → String → Prop
  | non : Kd H .non "NoneType"
  | bl (b : Bool) : Kd H (.bl b) "bool"
  | int (i : Int) : Kd H (.int i) "int"
  | str (z : Str) : Kd H (.str z) "str"
  | lst {a : Addr} {xs : List V} (h : H a = some (.lst xs)) : Kd H (.ref a) "list"
  | tup {a : Addr} {xs : List V} (h : H a = some (.tup xs)) : Kd H (.ref a) "tuple"
theorem Kd.mono {H H' : Hp} {v : V} {n : String} (e : Ex H H') : Kd H v n → Kd H' v n
  | .non => .non
  | .bl b => .bl b
  | .int i => .int i
  | .str z => .str z
  | .lst h => .lst (e _ _ h)
  | .tup h => .tup (e _ _ h)
theorem Kd.ty {K : PySem.W.Frag} {H : Hp} {v : V} {n : String} : Kd H v n → TyOf K H v (.type n)
  | .non => .non
  | .bl b => .bl b
  | .int i => .int i
  | .str z => .str z
  | .lst h => .lst h
  | .tup h => .tup h
theorem Kd.no {H : Hp} {v : V} {n : String} (k : Kd H v n) : ∀ a C dx fs, H a = some (.ins C dx fs) → v ≠ .ref a := fun a C dx fs h e => by
  cases k with
  | lst h2 =>
    cases e
    rw [h] at h2
    cases h2
  | tup h2 =>
    cases e
    rw [h] at h2
    cases h2
  | _ => cases e
def wd : V → Bool
  | .int i => decide (0 ≤ i)
  | _ => false
/-- isinstance(v, int), isinstance(v, bool) -/
def kInt (n : String) : Bool := n == "int" || n == "bool"
theorem kd_int {K : PySem.W.Frag} {H : Hp} {v : V} {n : String} (k : Kd H v n) : PySem.W.kitOne K (.type n) (.type "int") = some (kInt n) := by
  cases k <;> exact kit_ty rfl
theorem kd_bool {K : PySem.W.Frag} {H : Hp} {v : V} {n : String} (k : Kd H v n) : PySem.W.kitOne K (.type n) (.type "bool") = some (n == "bool") := by
  cases k <;> exact kit_ty rfl
theorem kd_list {K : PySem.W.Frag} {H : Hp} {v : V} {n : String} (k : Kd H v n) : PySem.W.kitOne K (.type n) (.type "list") = some (n == "list") := by
  cases k <;> exact kit_ty rfl
theorem kd_tuple {K : PySem.W.Frag} {H : Hp} {v : V} {n : String} (k : Kd H v n) : PySem.W.kitOne K (.type n) (.type "tuple") = some (n == "tuple") := by
  cases k <;> exact kit_ty rfl
theorem kd_str {K : PySem.W.Frag} {H : Hp} {v : V} {n : String} (k : Kd H v n) : PySem.W.kitOne K (.type n) (.type "str") = some (n == "str") := by
  cases k <;> exact kit_ty rfl
section
variable {K : PySem.W.Frag} {σ : L2.St} {H : Hp} {ta tb : TE} {v : V}
theorem ev_isk {n m : String} {b : Bool} (h : Ev ta σ H v) (hn : Ev tb σ H (.ty m)) (k : Kd H v n) (hk : PySem.W.kitOne K (.type n) (.type m) = some b) : Ev (tCB (rIsi K) (tCons ta (tCons tb tNil))) σ H (.bl b) := ev_isi h hn (fun H1 e => .base (k.mono e).ty) hk
end
def spIw : Sp := fun vs H Q _ => ∃ (v : V) (n : String), vs = [v] ∧ Kd H v n ∧ RetV (.bl (wd v)) H Q
theorem sv_iw {v : V} {n : String} {H : Hp} (k : Kd H v n) : SpV spIw [v] H (.bl (wd v)) := fun H1 e Q q E => ⟨v, n, rfl, k.mono e, q⟩

section
variable {P : Program} {w : World} {K : PySem.W.Frag} {mg : Str → Option Value} {base : Heap} {C : Addr}
theorem ok_iw {f : Addr} {fd : FuncData} (F : Fun K "is_word" "is_word" sIw f fd) (T : Txt mg K C) : FnOk P w K mg base CX0 1 f fd ["value"] spIw := by
  refine F.ok scIw (fun vs H Q E h => ?_) (fun cdv A outer s H vs Q E hr h => ?_)
  · obtain ⟨v, n, rfl, _⟩ := h
    rfl
  · obtain ⟨v, n, rfl, k, q⟩ := h
    refine ⟨_, (pss_one (ps_ret (pe_and (pe_callB call_isi (by rfl) T.isinstance (by decide +kernel) (pa_cons (pv 0) (pa_cons (pe_bltn (v := .ty "int") (u := .type "int") (by rfl) T.int (by decide +kernel) rfl) pa_nil))) (pe_and (pe_not (pe_callB call_isi (by rfl) T.isinstance (by decide +kernel) (pa_cons (pv 0) (pa_cons (pe_bltn (v := .ty "bool") (u := .type "bool") (by rfl) T.bool (by decide +kernel) rfl) pa_nil)))) (pe_one (pe_cmpR op_ge (pv 0) pe_int (nomark _))))))), ?_⟩
    have i1 := ev_isk (K := K) (σ := [some v]) (ta := tVar 0) (tb := tC (.ty "int")) (ev_var rfl) ev_c k (kd_int k)
    have i2 := ev_isk (K := K) (σ := [some v]) (ta := tVar 0) (tb := tC (.ty "bool")) (ev_var rfl) ev_c k (kd_bool k)
    cases k with
    | int i => exact s_ret (ev_is (ev_andV i1 (fun _ => ev_andV (ev_notV i2) (fun _ => ev_op (ev_var rfl) ev_c rv_I0))) rfl) fun H1 e1 => q H1 e1
    | bl b => exact s_ret (ev_is (ev_andV (b := false) i1 (fun _ => ev_andV (b := false) (ev_notV i2) (fun h => by cases h))) rfl) fun H1 e1 => q H1 e1
    | non => exact s_ret (ev_is (ev_andV (b := false) i1 (fun h => by cases h)) rfl) fun H1 e1 => q H1 e1
    | str z => exact s_ret (ev_is (ev_andV (b := false) i1 (fun h => by cases h)) rfl) fun H1 e1 => q H1 e1
    | lst h => exact s_ret (ev_is (ev_andV (b := false) i1 (fun h => by cases h)) rfl) fun H1 e1 => q H1 e1
    | tup h => exact s_ret (ev_is (ev_andV (b := false) i1 (fun h => by cases h)) rfl) fun H1 e1 => q H1 e1
/-- is_word(x) in an element of a generator expression -/
theorem qv_iw {X : Cx} {σ : L2.St} {H : Hp} {Pt : Addr} {scope : Scope} {x : Str} {u : Value} {v : V} {n : String} {a : Expr} {pos p : Pos} {f : Addr} {fd : FuncData} {j : Nat} (hr : Room j X.A) (T : Txt X.mg X.K C) (F : Fun X.K "is_word" "is_word" sIw f fd) (bI : Binds X.K fd ["value"] []) (gI : X.mg "is_word" = some (.ref f)) (hT : Tab H Pt) (k : Kd H v n)
    (hk : scope.kind = .function) (hl : scope.names.lookup ("is_word" : Str) = some .globalImplicit) (ha : QV X σ H Pt scope x u a v) (hs : ∀ env, starEach [a] env = (false, eval a env) :: starEach [] env := by intro _; rfl) : QV X σ H Pt scope x u (.Call (.Name "is_word" p) [a] [] pos) (.bl (wd v)) := by
  refine qv_call1 hr hk hl gI F rfl scIw rfl bI ha (fun A0 r hr0 => ?_) hs (by decide)
  have kk := k
  have b1 := kd_int (K := X.K) k
  have b2 := kd_bool (K := X.K) k
  have ty := k.ty (K := X.K)
  have no := k.no
  cases k with
  | int i => exact qv_is (qv_and (qv_blt2 rfl rfl T.isinstance (by decide +kernel) (qv_x rfl rfl hr0) (qv_blt (z := .ty "int") (r := .type "int") rfl rfl T.int (by decide +kernel) rfl) (qr_isi hT ty no b1)) (fun _ => qv_and (qv_not (qv_blt2 rfl rfl T.isinstance (by decide +kernel) (qv_x rfl rfl hr0) (qv_blt (z := .ty "bool") (r := .type "bool") rfl rfl T.bool (by decide +kernel) rfl) (qr_isi hT ty no b2))) (fun _ => qv_one (qv_cmp qr_ge_int (qv_x rfl rfl hr0) qv_int (nomark _))))) rfl
  | bl b => exact qv_is (qv_and (d := false) (qv_blt2 rfl rfl T.isinstance (by decide +kernel) (qv_x rfl rfl hr0) (qv_blt (z := .ty "int") (r := .type "int") rfl rfl T.int (by decide +kernel) rfl) (qr_isi hT ty no b1)) (fun _ => qv_is (qv_and (d := false) (qv_not (qv_blt2 rfl rfl T.isinstance (by decide +kernel) (qv_x rfl rfl hr0) (qv_blt (z := .ty "bool") (r := .type "bool") rfl rfl T.bool (by decide +kernel) rfl) (qr_isi hT ty no b2))) (fun h => by cases h)) (show _ = V.bl false from rfl))) rfl
  | non => exact qv_is (qv_and (d := false) (qv_blt2 rfl rfl T.isinstance (by decide +kernel) (qv_x rfl rfl hr0) (qv_blt (z := .ty "int") (r := .type "int") rfl rfl T.int (by decide +kernel) rfl) (qr_isi hT ty no b1)) (fun h => by cases h)) rfl
  | str z => exact qv_is (qv_and (d := false) (qv_blt2 rfl rfl T.isinstance (by decide +kernel) (qv_x rfl rfl hr0) (qv_blt (z := .ty "int") (r := .type "int") rfl rfl T.int (by decide +kernel) rfl) (qr_isi hT ty no b1)) (fun h => by cases h)) rfl
  | lst h => exact qv_is (qv_and (d := false) (qv_blt2 rfl rfl T.isinstance (by decide +kernel) (qv_x rfl rfl hr0) (qv_blt (z := .ty "int") (r := .type "int") rfl rfl T.int (by decide +kernel) rfl) (qr_isi hT ty no b1)) (fun h => by cases h)) rfl
  | tup h => exact qv_is (qv_and (d := false) (qv_blt2 rfl rfl T.isinstance (by decide +kernel) (qv_x rfl rfl hr0) (qv_blt (z := .ty "int") (r := .type "int") rfl rfl T.int (by decide +kernel) rfl) (qr_isi hT ty no b1)) (fun h => by cases h)) rfl
/-- are_words of a list -/
def spAre (Pt : Addr) : Sp := fun vs H Q _ => Tab H Pt ∧ ∃ (a : Addr) (xs : List V) (many : Int), vs = [.ref a, .int many] ∧ H a = some (.lst xs) ∧ (∀ x ∈ xs, ∃ n, Kd H x n) ∧ RetV (.bl (decide ((xs.length : Int) = many) && xs.all wd)) H Q
theorem ok_are {f c Pt fI : Addr} {fd fdI : FuncData} (F : FunC K "are_words" "are_words" sAre f fd c) (TB : LamX.TabB base mg c Pt) (T : Txt mg K C) (FI : Fun K "is_word" "is_word" sIw fI fdI) (bI : Binds K fdI ["value"] []) (gI : mg "is_word" = some (.ref fI)) : FnOk P w K mg base CX0 1 f fd ["values", "many"] (spAre Pt) := by
  refine F.ok scAre (fun vs H Q E h => ?_) (fun A outer s H vs Q E hr h => ?_)
  · obtain ⟨_, a, xs, m, rfl, _⟩ := h
    rfl
  · refine ⟨_, (pss_cons (ps_if (PW.pt (pw_or (pt_not (pt_val (pe_callB call_isi (by rfl) T.isinstance (by decide +kernel) (pa_cons (pv 0) (pa_cons (pe_bltn (v := .ty "list") (u := .type "list") (by rfl) T.list (by decide +kernel) rfl) pa_nil))))) (pw_or1 (pt_cmpR op_ne (pe_callB call_len_seq (by rfl) T.len (by decide +kernel) (pa_cons (pv 0) pa_nil)) (pv 1) (nomark _))))) (pss_one (ps_ret pe_bl)) pss_nil)
      (pss_one (ps_ret (pe_all hr (by rfl) T.all (by decide +kernel) TB rfl ⟨rfl, rfl, by decide +kernel, rfl, rfl, fun y hy e => absurd e ((by decide +kernel : ∀ y ∈ _, y.2 ≠ NameKind.free) y hy)⟩ (pv 0) (fun _ => rfl))))), ?_⟩
    obtain ⟨hT, a, xs, m, rfl, hS, hk, q⟩ := h
    refine q_when (b := !decide ((xs.length : Int) = m)) (et_is (et_or (et_not (et_B (ev_isk (ev_var rfl) ev_c (.lst hS) (kd_list (.lst hS))))) (fun _ => et_test (ev_op (ev_len (ev_var rfl) (sq_of hS)) (ev_var rfl) (rv_ne rfl)))) (by simp)) (fun hb H1 e1 => ?_) (fun hb H1 e1 => ?_)
    · have h0 : decide ((xs.length : Int) = m) = false := by simpa using hb
      rw [h0] at q
      exact s_ret ev_c fun H2 e2 => q H2 (e1.trans e2)
    · have h0 : decide ((xs.length : Int) = m) = true := by simpa using hb
      rw [h0] at q
      refine s_ret (ev_is (ev_gen (f := fun i => wd (xs.getD i .non)) (xs := fun i => xs.getD i .non) (n := xs.length) (ev_var rfl) (hT.mono e1) (fun H2 e2 => .inl ⟨a, xs, rfl, sq_of ((e1.trans e2) _ _ hS), rfl, fun i => rfl⟩) (fun H2 e2 i u hi hu => ?_)) ?_) fun H2 e2 => q H2 (e1.trans e2)
      · have hx : xs.getD i .non ∈ xs := by
          rw [List.getD_eq_getElem?_getD, List.getElem?_eq_getElem hi]
          exact List.getElem_mem hi
        obtain ⟨n, kn⟩ := hk _ hx
        exact qv_iw hr T FI bI gI (hT.mono (e1.trans e2)) (kn.mono (e1.trans e2)) rfl rfl (qv_x rfl rfl hu)
      · rw [allF_list xs .non wd]
        rfl
end

/-! ### a disk: what lasts, what waits, the power -/
def stepA (f : Nat → List Int) (w : Nat × List Int) (c : Nat) : Nat → List Int := fset f w.1 (w.2.take c ++ (f w.1).drop c)
def aftN (f : Nat → List Int) (ws : List (Nat × List Int)) (c : Nat → Nat) : Nat → (Nat → List Int)
  | 0 => f
  | i + 1 => stepA (aftN f ws c i) (ws.getD i (0, [])) (c i)
def due (f : Nat → List Int) (ws : List (Nat × List Int)) : Nat → List Int := ws.foldl (fun g w => fset g w.1 w.2) f
theorem due_snoc (f : Nat → List Int) (ws : List (Nat × List Int)) (w : Nat × List Int) : due f (ws ++ [w]) = fset (due f ws) w.1 w.2 := by
  unfold due
  rw [List.foldl_append]
  rfl
theorem fset_same (f : Nat → List Int) (s : Nat) : fset f s (f s) = f := funext fun x => by
  unfold fset
  split
  · rename_i h
    rw [h]
  · rfl
theorem step0 (f : Nat → List Int) (w : Nat × List Int) : stepA f w 0 = f := by
  unfold stepA
  rw [List.take_zero, List.drop_zero, List.nil_append, fset_same]
theorem aft_stop {f : Nat → List Int} {ws : List (Nat × List Int)} {c : Nat → Nat} {i : Nat} (h : ∀ j, i ≤ j → c j = 0) : ∀ k, aftN f ws c (i + k) = aftN f ws c i
  | 0 => rfl
  | k + 1 => by
    show stepA (aftN f ws c (i + k)) _ (c (i + k)) = _
    rw [h (i + k) (by omega), step0, aft_stop h k]
theorem aft_cong {f : Nat → List Int} {ws : List (Nat × List Int)} {c c' : Nat → Nat} : ∀ {i : Nat}, (∀ j, j < i → c j = c' j) → aftN f ws c i = aftN f ws c' i
  | 0, _ => rfl
  | i + 1, h => by
    show stepA (aftN f ws c i) _ (c i) = stepA (aftN f ws c' i) _ (c' i)
    rw [aft_cong fun j hj => h j (by omega), h i (by omega)]
theorem fset_len {f : Nat → List Int} {s : Nat} {v : List Int} (hf : ∀ s, (f s).length = 8) (hv : v.length = 8) : ∀ x, (fset f s v x).length = 8 := fun x => by
  unfold fset
  split
  · exact hv
  · exact hf x
theorem step_len {f : Nat → List Int} {w : Nat × List Int} {c : Nat} (hf : ∀ s, (f s).length = 8) (hw : w.2.length = 8) : ∀ x, (stepA f w c x).length = 8 := fset_len hf (by
  rw [List.length_append, List.length_take, List.length_drop, hw, hf]
  omega)
theorem getD_in {α : Type} {l : List α} {i : Nat} {d x : α} (h : l[i]? = some x) : l.getD i d = x := by
  rw [List.getD_eq_getElem?_getD, h]
  rfl
theorem aft_len {f : Nat → List Int} {ws : List (Nat × List Int)} {c : Nat → Nat} (hf : ∀ s, (f s).length = 8) (hw : ∀ w ∈ ws, w.2.length = 8) : ∀ i, i ≤ ws.length → ∀ x, (aftN f ws c i x).length = 8
  | 0, _ => hf
  | i + 1, h => step_len (aft_len hf hw i (by omega)) (by
    rw [getD_in (List.getElem?_eq_getElem (show i < ws.length by omega))]
    exact hw _ (List.getElem_mem _))
theorem due_len {f : Nat → List Int} (hf : ∀ s, (f s).length = 8) : ∀ {ws : List (Nat × List Int)}, (∀ w ∈ ws, w.2.length = 8) → ∀ x, (due f ws x).length = 8 := by
  intro ws
  induction ws generalizing f with
  | nil => exact fun _ => hf
  | cons w r ih => exact fun h => ih (f := fset f w.1 w.2) (fset_len hf (h w List.mem_cons_self)) fun v hv => h v (List.mem_cons_of_mem _ hv)
structure Dk where
  kept : Nat → List Int
  ws : List (Nat × List Int)
  pw : Bool
  bf : Option Nat
def bfV : Option Nat → V
  | none => .non
  | some k => .int (k : Int)
def dfl (n : Nat) (ka sa wa : Addr) (pw : Bool) (bf : Option Nat) : List (Str × V) := [(("blocks" : Str), .int (n : Int)), (("_kept" : Str), .ref ka), (("_shown" : Str), .ref sa), (("_writes" : Str), .ref wa), (("_powered" : Str), .bl pw), (("_before_failure" : Str), bfV bf)]
section
variable {n : Nat} {ka sa wa ka' sa' wa' : Addr} {pw pw' : Bool} {bf bf' : Option Nat}
theorem d_b : (dfl n ka sa wa pw bf).lookup ("blocks" : Str) = some (V.int (n : Int)) := rfl
theorem d_k : (dfl n ka sa wa pw bf).lookup ("_kept" : Str) = some (V.ref ka) := rfl
theorem d_s : (dfl n ka sa wa pw bf).lookup ("_shown" : Str) = some (V.ref sa) := rfl
theorem d_w : (dfl n ka sa wa pw bf).lookup ("_writes" : Str) = some (V.ref wa) := rfl
theorem d_p : (dfl n ka sa wa pw bf).lookup ("_powered" : Str) = some (V.bl pw) := rfl
theorem d_f : (dfl n ka sa wa pw bf).lookup ("_before_failure" : Str) = some (bfV bf) := rfl
theorem d_ps : putF "_shown" (V.ref sa') (dfl n ka sa wa pw bf) = dfl n ka sa' wa pw bf := rfl
theorem d_pw : putF "_writes" (V.ref wa') (dfl n ka sa wa pw bf) = dfl n ka sa wa' pw bf := rfl
theorem d_pp : putF "_powered" (V.bl pw') (dfl n ka sa wa pw bf) = dfl n ka sa wa pw' bf := rfl
theorem d_pf : putF "_before_failure" (bfV bf') (dfl n ka sa wa pw bf) = dfl n ka sa wa pw bf' := rfl
theorem d_no {m : Str} (h : m ≠ "blocks" ∧ m ≠ "_kept" ∧ m ≠ "_shown" ∧ m ≠ "_writes" ∧ m ≠ "_powered" ∧ m ≠ "_before_failure") : (dfl n ka sa wa pw bf).lookup m = Option.none := by
  unfold dfl
  rw [List.lookup_cons, beq_false_of_ne h.1, List.lookup_cons, beq_false_of_ne h.2.1, List.lookup_cons, beq_false_of_ne h.2.2.1, List.lookup_cons, beq_false_of_ne h.2.2.2.1, List.lookup_cons, beq_false_of_ne h.2.2.2.2.1, List.lookup_cons, beq_false_of_ne h.2.2.2.2.2]
  rfl
end
def Rows (G H : Hp) (la : Addr) (m : Nat) (f : Nat → List Int) : Prop := ∃ ks : List Addr, H la = some (.lst (ks.map V.ref)) ∧ ks.length = m ∧ ∀ (i : Nat) (a : Addr), ks[i]? = some a → G a = some (.lst ((f i).map V.int))
def Wr (G H : Hp) (la : Addr) (ws : List (Nat × List Int)) : Prop := ∃ ts : List Addr, H la = some (.lst (ts.map V.ref)) ∧ ts.length = ws.length ∧ ∀ (i : Nat) (t : Addr) (w : Nat × List Int), ts[i]? = some t → ws[i]? = some w → ∃ l, G t = some (.tup [.int (w.1 : Int), .ref l]) ∧ G l = some (.lst (w.2.map V.int))
structure DK (C : Addr) (G H : Hp) (p ka sa wa : Addr) (n : Nat) (d : Dk) : Prop where
  g : Ex G H
  gp : G p = none
  gk : G ka = none
  gs : G sa = none
  gw : G wa = none
  nks : ka ≠ sa
  nkw : ka ≠ wa
  nsw : sa ≠ wa
  o : ∃ dx, H p = some (.ins C dx (dfl n ka sa wa d.pw d.bf))
  k : Rows G H ka (4 * n) d.kept
  s : Rows G H sa (4 * n) (due d.kept d.ws)
  w : Wr G H wa d.ws
  n0 : 96 ≤ n
  n1 : n ≤ 256
  wl : d.ws.length ≤ 100
  ok : ∀ w ∈ d.ws, w.1 < 4 * n ∧ w.2.length = 8
  kz : ∀ s, (d.kept s).length = 8
/-- from (G, H) to (G', H1): what was frozen stays so, what was not does not become so, nothing goes away -/
structure St (G H G' H1 : Hp) : Prop where
  g : Ex G G'
  n : ∀ a, H a ≠ none → G a = none → G' a = none
  a : ∀ a, H a ≠ none → H1 a ≠ none
section
variable {C : Addr} {G G' H H1 H2 : Hp} {la p ka sa wa : Addr} {n m : Nat} {d : Dk} {f : Nat → List Int} {ws : List (Nat × List Int)}
theorem Rows.ex (r : Rows G H la m f) (g : Ex G G') (e : Ex H H1) : Rows G' H1 la m f := by
  obtain ⟨ks, h, hl, hs⟩ := r
  exact ⟨ks, e _ _ h, hl, fun i a ha => g _ _ (hs i a ha)⟩
theorem Rows.at (r : Rows G H la m f) (g : Ex G G') (e : H1 la = H la) : Rows G' H1 la m f := by
  obtain ⟨ks, h, hl, hs⟩ := r
  exact ⟨ks, by rw [e]; exact h, hl, fun i a ha => g _ _ (hs i a ha)⟩
theorem Wr.ex (r : Wr G H la ws) (g : Ex G G') (e : Ex H H1) : Wr G' H1 la ws := by
  obtain ⟨ts, h, hl, hs⟩ := r
  exact ⟨ts, e _ _ h, hl, fun i t w ht hw => let ⟨l, a, b⟩ := hs i t w ht hw; ⟨l, g _ _ a, g _ _ b⟩⟩
theorem Wr.at (r : Wr G H la ws) (g : Ex G G') (e : H1 la = H la) : Wr G' H1 la ws := by
  obtain ⟨ts, h, hl, hs⟩ := r
  exact ⟨ts, by rw [e]; exact h, hl, fun i t w ht hw => let ⟨l, a, b⟩ := hs i t w ht hw; ⟨l, g _ _ a, g _ _ b⟩⟩
theorem DK.ex (D : DK C G H p ka sa wa n d) (e : Ex H H1) : DK C G H1 p ka sa wa n d :=
  ⟨D.g.trans e, D.gp, D.gk, D.gs, D.gw, D.nks, D.nkw, D.nsw, let ⟨dx, h⟩ := D.o; ⟨dx, e _ _ h⟩, D.k.ex (Ex.refl _) e, D.s.ex (Ex.refl _) e, D.w.ex (Ex.refl _) e, D.n0, D.n1, D.wl, D.ok, D.kz⟩
theorem St.refl (G H : Hp) : St G H G H := ⟨Ex.refl _, fun _ _ h => h, fun _ h => h⟩
theorem St.ex (e : Ex H H1) : St G H G H1 := ⟨Ex.refl _, fun _ _ h => h, fun a h z => h (fresh_back e z)⟩
theorem St.trans {G2 : Hp} (s : St G H G' H1) (t : St G' H1 G2 H2) : St G H G2 H2 := ⟨s.g.trans t.g, fun a h g => t.n a (s.a a h) (s.n a h g), fun a h => t.a a (s.a a h)⟩
theorem DK.np (D : DK C G H p ka sa wa n d) : p ≠ ka ∧ p ≠ sa ∧ p ≠ wa := by
  obtain ⟨dx, h⟩ := D.o
  obtain ⟨_, h1, _⟩ := D.k
  obtain ⟨_, h2, _⟩ := D.s
  obtain ⟨_, h3, _⟩ := D.w
  exact ⟨ne_of h h1 (by intro z; cases z), ne_of h h2 (by intro z; cases z), ne_of h h3 (by intro z; cases z)⟩
theorem DK.al (D : DK C G H p ka sa wa n d) : H p ≠ none ∧ H ka ≠ none ∧ H sa ≠ none ∧ H wa ≠ none := by
  obtain ⟨dx, h⟩ := D.o
  obtain ⟨_, h1, _⟩ := D.k
  obtain ⟨_, h2, _⟩ := D.s
  obtain ⟨_, h3, _⟩ := D.w
  exact ⟨by rw [h]; exact fun z => (by cases z), by rw [h1]; exact fun z => (by cases z), by rw [h2]; exact fun z => (by cases z), by rw [h3]; exact fun z => (by cases z)⟩
theorem DK.joinG (D : DK C G H p ka sa wa n d) (e : Ex H H1) : St G H (grow G H H1 fun _ => False) H1 ∧ DK C (grow G H H1 fun _ => False) H1 p ka sa wa n d := by
  have ge := D.g.trans e
  have gg : Ex G (grow G H H1 fun _ => False) := grow_ex
  obtain ⟨ap, ak, as, aw⟩ := D.al
  exact ⟨⟨gg, fun a h g => grow_no h g, fun a h z => h (fresh_back e z)⟩, grow_sub ge, grow_no ap D.gp, grow_no ak D.gk, grow_no as D.gs, grow_no aw D.gw, D.nks, D.nkw, D.nsw, let ⟨dx, h⟩ := D.o; ⟨dx, e _ _ h⟩, D.k.ex gg e, D.s.ex gg e, D.w.ex gg e, D.n0, D.n1, D.wl, D.ok, D.kz⟩
/-- all that is new since H joins what is frozen -/
theorem DK.join (D : DK C G H p ka sa wa n d) (e : Ex H H1) : ∃ G', St G H G' H1 ∧ DK C G' H1 p ka sa wa n d ∧ ∀ a o, H a = none → H1 a = some o → G' a = some o := by
  have ge := D.g.trans e
  have gg : Ex G (grow G H H1 fun _ => False) := grow_ex
  obtain ⟨ap, ak, as, aw⟩ := D.al
  refine ⟨grow G H H1 fun _ => False, ⟨gg, fun a h g => grow_no h g, fun a h z => h (fresh_back e z)⟩, ?_, fun a o h h1 => grow_new (fresh_back D.g h) h id h1⟩
  exact ⟨grow_sub ge, grow_no ap D.gp, grow_no ak D.gk, grow_no as D.gs, grow_no aw D.gw, D.nks, D.nkw, D.nsw, let ⟨dx, h⟩ := D.o; ⟨dx, e _ _ h⟩, D.k.ex gg e, D.s.ex gg e, D.w.ex gg e, D.n0, D.n1, D.wl, D.ok, D.kz⟩
/-- what is not frozen and no part of the disk may change -/
theorem DK.upd {a : Addr} {o : HO} (D : DK C G H p ka sa wa n d) (ga : G a = none) (h1 : a ≠ p) (h2 : a ≠ ka) (h3 : a ≠ sa) (h4 : a ≠ wa) : DK C G (upd H a o) p ka sa wa n d :=
  ⟨D.g.mut ga, D.gp, D.gk, D.gs, D.gw, D.nks, D.nkw, D.nsw, let ⟨dx, h⟩ := D.o; ⟨dx, by rw [upd_ne h1.symm]; exact h⟩, D.k.at (Ex.refl _) (upd_ne h2.symm), D.s.at (Ex.refl _) (upd_ne h3.symm), D.w.at (Ex.refl _) (upd_ne h4.symm), D.n0, D.n1, D.wl, D.ok, D.kz⟩
theorem St.upd {a : Addr} {o : HO} (s : St G H G' H1) : St G H G' (upd H1 a o) := ⟨s.g, s.n, fun b h z => by
  by_cases e : b = a
  · rw [e, upd_same] at z
    cases z
  · rw [upd_ne e] at z
    exact s.a b h z⟩
end

end K23D

set_option Elab.async false
set_option linter.all false
set_option maxRecDepth 100000
set_option maxHeartbeats 4000000
namespace K23D
open PySem PySem.Spec PyProof.Rows L2 Evl LK LT LG LS LQ LX LO LN LP
def InS (n : Nat) (z : Int) : Prop := 0 ≤ z ∧ z < 4 * (n : Int)
def okW (xs : List V) : Prop := xs.length = 8 ∧ xs.all wd = true
theorem okW_ints : ∀ {xs : List V}, xs.all wd = true → ∃ ns : List Int, xs = ns.map V.int ∧ ∀ z ∈ ns, 0 ≤ z
  | [], _ => ⟨[], rfl, fun z hz => absurd hz List.not_mem_nil⟩
  | x :: r, h => by
    rw [List.all_cons, Bool.and_eq_true] at h
    obtain ⟨ns, e, hn⟩ := okW_ints h.2
    cases x with
    | int i =>
      have h0 : 0 ≤ i := of_decide_eq_true h.1
      exact ⟨i :: ns, by rw [e]; rfl, fun z hz => by
        rcases List.mem_cons.mp hz with rfl | h
        · exact h0
        · exact hn z h⟩
    | _ => cases h.1
theorem ints_wd {ns : List Int} (h : ∀ z ∈ ns, 0 ≤ z) : (ns.map V.int).all wd = true := by
  rw [List.all_eq_true]
  intro x hx
  obtain ⟨z, hz, rfl⟩ := List.mem_map.mp hx
  exact decide_eq_true (h z hz)
theorem kd_ints {H : Hp} (ns : List Int) : ∀ x ∈ ns.map V.int, ∃ n, Kd H x n := fun x hx => by
  obtain ⟨z, hz, rfl⟩ := List.mem_map.mp hx
  exact ⟨_, .int z⟩
def spSize : Sp := fun vs H Q _ => ∃ z : Int, vs = [.int z] ∧ RetV (.bl (decide (0 ≤ z) && (decide (96 ≤ z) && decide (z ≤ 256)))) H Q
/-- a choice of a cut -/
def wc : V → Bool
  | .int i => decide (0 ≤ i) && decide (i ≤ 8)
  | _ => false
def spChs (Pt : Addr) : Sp := fun vs H Q _ => Tab H Pt ∧ ∃ (a : Addr) (xs : List V), vs = [.ref a] ∧ H a = some (.lst xs) ∧ (∀ x ∈ xs, ∃ n, Kd H x n) ∧ RetV (.bl (xs.all wc)) H Q
def spSec (C : Addr) : Sp := fun vs H Q _ => ∃ G p ka sa wa n d z, vs = [.ref p, .int z] ∧ DK C G H p ka sa wa n d ∧ RetV (.bl (decide (0 ≤ z) && decide (z < 4 * (n : Int)))) H Q
def on (d : Dk) : Prop := d.pw = true ∧ d.bf ≠ some 0
def spBeg (C CO : Addr) : Sp := fun vs H Q E => ∃ G p ka sa wa n d, vs = [.ref p] ∧ DK C G H p ka sa wa n d ∧
  (on d → ∀ H1, (∀ a, H a ≠ none → H1 a ≠ none) → (∀ a o, H a = some o → a ≠ p → H1 a = some o) → DK C G H1 p ka sa wa n { d with bf := d.bf.map (· - 1) } → Q .non H1) ∧
  (¬ on d → ∀ H1, (∀ a, H a ≠ none → H1 a ≠ none) → (∀ a o, H a = some o → a ≠ p → H1 a = some o) → DK C G H1 p ka sa wa n { d with pw := false } → E (.ref CO) none H1)
def spRead (C CN CO : Addr) : Sp := fun vs H Q E => ∃ G p ka sa wa n d z, vs = [.ref p, .int z] ∧ DK C G H p ka sa wa n d ∧
  (d.pw = true → ∀ s : Nat, z = (s : Int) → s < 4 * n → RetL ((due d.kept d.ws s).map V.int) H Q) ∧ (d.pw = false → ∀ H', Ex H H' → E (.ref CO) none H') ∧ (d.pw = true → ¬ InS n z → ∀ H', Ex H H' → E (.ref CN) none H')
def spWrite (C CN CO Pt : Addr) : Sp := fun vs H Q E => ∃ G p ka sa wa n d z u xs, vs = [.ref p, .int z, .ref u] ∧ DK C G H p ka sa wa n d ∧ H u = some (.lst xs) ∧ (∀ x ∈ xs, ∃ k, Kd H x k) ∧ Tab G Pt ∧ d.ws.length < 100 ∧ u ≠ p ∧
  (¬ (InS n z ∧ okW xs) → ∀ H', Ex H H' → E (.ref CN) none H') ∧
  (on d → ∀ (s : Nat) (ns : List Int), z = (s : Int) → s < 4 * n → xs = ns.map V.int → ns.length = 8 → (∀ z ∈ ns, 0 ≤ z) → ∀ G' H1, St G H G' H1 → (∀ a o, H a = some o → a ≠ p → a ≠ sa → a ≠ wa → H1 a = some o) → DK C G' H1 p ka sa wa n { d with ws := d.ws ++ [(s, ns)], bf := d.bf.map (· - 1) } → Q .non H1) ∧
  (¬ on d → InS n z ∧ okW xs → ∀ H1, St G H G H1 → (∀ a o, H a = some o → a ≠ p → H1 a = some o) → DK C G H1 p ka sa wa n { d with pw := false } → E (.ref CO) none H1)
section
variable {P : Program} {w : World} {K : PySem.W.Frag} {mg : Str → Option Value} {base : Heap} {C CN CO : Addr}
theorem ok_size {f fW : Addr} {fd fdW : FuncData} (F : Fun K "is_size" "is_size" sSize f fd) (FW : Fun K "is_word" "is_word" sIw fW fdW) (bW : Binds K fdW ["value"] []) (gW : mg "is_word" = some (.ref fW)) (T : Txt mg K C) : FnOk P w K mg base CX0 2 f fd ["blocks"] spSize := by
  have GW : FnOk P w K mg base CX0 1 fW fdW ["value"] spIw := ok_iw FW T
  obtain ⟨_, gMIN_BLOCKS⟩ := T.gMIN_BLOCKS
  obtain ⟨_, gMAX_BLOCKS⟩ := T.gMAX_BLOCKS
  refine F.ok scSize (fun vs H Q E h => ?_) (fun cdv A outer s H vs Q E hr h => ?_)
  · obtain ⟨z, rfl, _⟩ := h
    rfl
  · obtain ⟨z, rfl, q⟩ := h
    refine ⟨_, (pss_one (ps_ret (pe_and (pe_call GW (hr.mono (by decide)) (by rfl) gW FW.kp bW .nil pass0 (pa_cons (pv 0) pa_nil)) (pe_one (pe_chain op_le op_le (pe_glob (v := .int 96) rfl gMIN_BLOCKS ⟨_, rfl⟩) (pv 0) (pe_glob (v := .int 256) rfl gMAX_BLOCKS ⟨_, rfl⟩)))))), ?_⟩
    exact s_ret (ev_andV (ev_call (vs := [.int z]) (ea_cons (ev_var rfl) ea_nil) (sv_iw (.int z))) (fun _ => ev_chain ev_c (ev_var rfl) ev_c)) q
theorem ok_sec {f fW : Addr} {fd fdW : FuncData} (F : Fun K "_is_sector" "Disk._is_sector" sSec f fd) (FW : Fun K "is_word" "is_word" sIw fW fdW) (bW : Binds K fdW ["value"] []) (gW : mg "is_word" = some (.ref fW)) (T : Txt mg K C) : FnOk P w K mg base CX0 2 f fd ["self", "sector"] (spSec C) := by
  have GW : FnOk P w K mg base CX0 1 fW fdW ["value"] spIw := ok_iw FW T
  obtain ⟨_, gBLOCK_SECTORS⟩ := T.gBLOCK_SECTORS
  refine F.ok scSec (fun vs H Q E h => ?_) (fun cdv A outer s H vs Q E hr h => ?_)
  · obtain ⟨G, p, ka, sa, wa, n, d, z, rfl, _⟩ := h
    rfl
  · obtain ⟨G, p, ka, sa, wa, n, d, z, rfl, D, q⟩ := h
    obtain ⟨dx, ho⟩ := D.o
    refine ⟨_, (pss_one (ps_ret (pe_and (pe_call GW (hr.mono (by decide)) (by rfl) gW FW.kp bW .nil pass0 (pa_cons (pv 1) pa_nil)) (pe_one (pe_cmpR op_lt (pv 1) (pe_op op_mul (pe_glob (v := .int 4) rfl gBLOCK_SECTORS ⟨_, rfl⟩) (pe_fld (pv 0) rfl)) (nomark _)))))), ?_⟩
    exact s_ret (ev_andV (ev_call (vs := [.int z]) (ea_cons (ev_var rfl) ea_nil) (sv_iw (.int z))) (fun _ => ev_op (ev_var rfl) (ev_op ev_c (ev_fld (ev_var rfl) ho T.cl T.nb d_b) (rv_I (.inl ⟨by decide, by decide⟩))) rv_I0)) q
theorem sv_sec {G H : Hp} {p ka sa wa : Addr} {n : Nat} {d : Dk} {z : Int} (D : DK C G H p ka sa wa n d) : SpV (spSec C) [.ref p, .int z] H (.bl (decide (0 ≤ z) && decide (z < 4 * (n : Int)))) := fun H1 e1 Q q E => ⟨G, p, ka, sa, wa, n, d, z, rfl, D.ex e1, q⟩
theorem bf_min (k : Nat) : bfV ((some (k + 1)).map (· - 1)) = .int (((k + 1 : Nat) : Int) - 1) := by
  exact congrArg V.int (show ((k + 1 - 1 : Nat) : Int) = ((k + 1 : Nat) : Int) - 1 by omega)
theorem ok_beg {f : Addr} {fd : FuncData} (F : Fun K "_begin_operation" "Disk._begin_operation" sBeg f fd) (T : Txt mg K C) (XO : Xc K mg "PowerOff" CO) : FnOk P w K mg base (L2.CX P w) 1 f fd ["self"] (spBeg C CO) := by
  refine F.okX scBeg (fun vs H Q E h => ?_) (fun cdv A outer s H vs Q E hr h => ?_)
  · obtain ⟨G, p, ka, sa, wa, n, d, rfl, _⟩ := h
    rfl
  · obtain ⟨G, p, ka, sa, wa, n, d, rfl, D, q, qE⟩ := h
    obtain ⟨dx, ho⟩ := D.o
    refine ⟨_, (pss_cut (ps_if (pt_cmpR op_eq (pe_fld (pv 0) rfl) pe_int (nomark _)) (pss_one (ps_fld (pv 0) pe_bl rfl)) pss_nil)
      (pss_cons (ps_if (pt_not (pt_val (pe_fld (pv 0) rfl))) (pss_one (ps_raise0 rfl XO (takes_of rfl rfl rfl rfl) (by rfl))) pss_nil)
      (pss_one (ps_if (pt_cmpR op_notN (pe_fld (pv 0) rfl) pe_non (nomark _)) (pss_one (ps_fldaug (pv 0) pe_int in_sub)) pss_nil)))), ?_⟩
    have kp : ∀ {H1 : Hp} {o : HO}, Ex H H1 → (∀ a, H a ≠ none → (upd H1 p o) a ≠ none) ∧ ∀ a u, H a = some u → a ≠ p → (upd H1 p o) a = some u := fun e => ⟨fun a h z => by
      by_cases ha : a = p
      · rw [ha, upd_same] at z
        cases z
      · rw [upd_ne ha] at z
        exact h (fresh_back e z), fun a u h ha => by
        rw [upd_ne ha]
        exact e _ _ h⟩
    have mk : ∀ {H1 : Hp} {pw : Bool} {bf : Option Nat}, Ex H H1 → DK C G (upd H1 p (.ins C dx (dfl n ka sa wa pw bf))) p ka sa wa n { d with pw := pw, bf := bf } := fun e => by
      have D1 := D.ex e
      obtain ⟨n1, n2, n3⟩ := D.np
      exact ⟨D1.g.mut D.gp, D.gp, D.gk, D.gs, D.gw, D.nks, D.nkw, D.nsw, ⟨dx, upd_same⟩, D1.k.at (Ex.refl _) (upd_ne n1.symm), D1.s.at (Ex.refl _) (upd_ne n2.symm), D1.w.at (Ex.refl _) (upd_ne n3.symm), D.n0, D.n1, D.wl, D.ok, D.kz⟩
    have sc0 : scal (bfV d.bf) (.int 0) = true := by cases d.bf <;> rfl
    by_cases h0 : d.bf = some 0
    · have hno : ¬ on d := fun h => h.2 h0
      refine q_cut (M := fun σ2 H2 => σ2 = [some (.ref p)] ∧ DK C G H2 p ka sa wa n { d with pw := false } ∧ (∀ a, H a ≠ none → H2 a ≠ none) ∧ ∀ a u, H a = some u → a ≠ p → H2 a = some u) ?_ ?_
      · refine s_when (b := true) (et_is (et_test (ev_op (ev_fld (ev_var rfl) ho T.cl T.nf d_f) ev_c (rv_eq sc0))) (by rw [h0]; decide)) (fun _ H1 e1 => ?_) (fun h => by cases h)
        refine s_fld ev_c (ev_var rfl) (e1 _ _ ho) T.cl T.np (by show 6 < 1000; decide) fun H2 e2 => ?_
        rw [d_pp]
        have k := kp (o := .ins C dx (dfl n ka sa wa false d.bf)) (e1.trans e2)
        exact ⟨rfl, mk (pw := false) (bf := d.bf) (e1.trans e2), k.1, k.2⟩
      · rintro σ2 H2 ⟨rfl, D2, k1, k2⟩
        obtain ⟨dx2, ho2⟩ := D2.o
        exact q_when (b := true) (et_is (et_not (et_B (ev_fld (ev_var rfl) ho2 T.cl T.np d_p))) rfl) (fun _ H3 e3 => qE hno H3 (fun a h z => k1 a h (fresh_back e3 z)) (fun a u h ha => e3 _ _ (k2 a u h ha)) (D2.ex e3)) (fun h => by cases h)
    · refine q_cut (M := fun σ2 H2 => σ2 = [some (.ref p)] ∧ Ex H H2) ?_ ?_
      · refine s_when (b := false) (et_is (et_test (ev_op (ev_fld (ev_var rfl) ho T.cl T.nf d_f) ev_c (rv_eq sc0))) (decide_eq_false fun e => h0 (by
          cases hb : d.bf with
          | none => rw [hb] at e; cases e
          | some k =>
            rw [hb] at e
            have := V.int.inj e
            have : k = 0 := by omega
            rw [this]))) (fun h => by cases h) (fun _ H1 e1 => ⟨rfl, e1⟩)
      · rintro σ2 H2 ⟨rfl, e2⟩
        cases hp : d.pw with
        | false =>
          have hno : ¬ on d := fun h => by have h1 := h.1; rw [hp] at h1; cases h1
          have ed : ({ d with pw := false } : Dk) = d := by rw [← hp]
          exact q_when (b := true) (et_is (et_not (et_B (ev_fld (ev_var rfl) (e2 _ _ ho) T.cl T.np d_p))) (by rw [hp]; rfl)) (fun _ H3 e3 => qE hno H3 (fun a h z => h (fresh_back (e2.trans e3) z)) (fun a u h ha => e3 _ _ (e2 _ _ h)) (by rw [ed]; exact D.ex (e2.trans e3))) (fun h => by cases h)
        | true =>
          have hon : on d := ⟨hp, h0⟩
          refine q_when (b := false) (et_is (et_not (et_B (ev_fld (ev_var rfl) (e2 _ _ ho) T.cl T.np d_p))) (by rw [hp]; rfl)) (fun h => by cases h) (fun _ H3 e3 => ?_)
          cases hb : d.bf with
          | none =>
            refine s_when (b := false) (et_is (et_test (ev_op (ev_fld (ev_var rfl) (e3 _ _ (e2 _ _ ho)) T.cl T.nf d_f) ev_c rv_notN)) (by rw [hb]; decide)) (fun h => by cases h) (fun _ H4 e4 => ?_)
            have ed : ({ d with bf := d.bf.map (· - 1) } : Dk) = d := by
              cases d
              simp only at hb
              rw [hb]
              rfl
            exact q hon H4 (fun a h z => h (fresh_back ((e2.trans e3).trans e4) z)) (fun a u h ha => e4 _ _ (e3 _ _ (e2 _ _ h))) (by rw [ed]; exact D.ex ((e2.trans e3).trans e4))
          | some k =>
            have hk : k ≠ 0 := fun e => h0 (by rw [hb, e])
            obtain ⟨j, rfl⟩ : ∃ j, k = j + 1 := ⟨k - 1, by omega⟩
            refine s_when (b := true) (et_is (et_test (ev_op (ev_fld (ev_var rfl) (e3 _ _ (e2 _ _ ho)) T.cl T.nf d_f) ev_c rv_notN)) (by rw [hb]; show (!decide (V.int ((j + 1 : Nat) : Int) = V.non)) = true; rw [decide_eq_false (fun e => by cases e)]; rfl)) (fun _ H4 e4 => ?_) (fun h => by cases h)
            have ho4 := e4 _ _ (e3 _ _ (e2 _ _ ho))
            have e24 := (e2.trans e3).trans e4
            refine ⟨_, rfl, p, C, dx, _, _, rfl, ho4, T.cl, T.nf, d_f, ⟨((j + 1 : Nat) : Int), 1, by rw [hb]; rfl, rfl, dx, _, ho4, by show 6 < 1000; decide, ?_⟩⟩
            rw [← bf_min j, d_pf]
            have k := kp (o := .ins C dx (dfl n ka sa wa d.pw ((some (j + 1)).map (· - 1)))) e24
            have m := mk (pw := d.pw) (bf := (some (j + 1)).map (· - 1)) e24
            exact q hon _ k.1 k.2 (by rw [hb]; exact m)
theorem ok_read {f fS : Addr} {fd fdS : FuncData} (F : Fun K "read" "Disk.read" sRead f fd) (Gis_sector : FnOk P w K mg base CX0 2 fS fdS ["self", "sector"] (spSec C)) (bis_sector : Binds K fdS ["self", "sector"] []) (mis_sector : Meth K C "_is_sector" fS) (T : Txt mg K C) (XO : Xc K mg "PowerOff" CO) (XN : Xc K mg "NotValid" CN) : FnOk P w K mg base (L2.CX P w) 3 f fd ["self", "sector"] (spRead C CN CO) := by
  refine F.okX scRead (fun vs H Q E h => ?_) (fun cdv A outer s H vs Q E hr h => ?_)
  · obtain ⟨G, p, ka, sa, wa, n, d, z, rfl, _⟩ := h
    rfl
  · obtain ⟨G, p, ka, sa, wa, n, d, z, rfl, D, q, qO, qN⟩ := h
    obtain ⟨dx, ho⟩ := D.o
    refine ⟨_, (pss_cons (ps_if (pt_not (pt_val (pe_fld (pv 0) rfl))) (pss_one (ps_raise0 rfl XO (takes_of rfl rfl rfl rfl) (by rfl))) pss_nil)
      (pss_cons (ps_if (pt_not (pt_val (pe_meth (pv 0) T.cl mis_sector Gis_sector (hr.mono (by decide)) bis_sector .nil pass0 (pa_cons (pv 1) pa_nil)))) (pss_one (ps_raise0 rfl XN (takes_of rfl rfl rfl rfl) (by rfl))) pss_nil)
      (pss_one (ps_ret (pe_callTy call_list_of (by rfl) T.list (by decide +kernel) (pa_cons (pe_ix ix_list (pe_fld (pv 0) rfl) (pv 1) (fun _ _ => rfl)) pa_nil)))))), ?_⟩
    refine q_when (et_not (et_B (ev_fld (ev_var rfl) ho T.cl T.np d_p))) (fun hb H1 e1 => qO (by simpa using hb) H1 e1) (fun hb H1 e1 => ?_)
    have hp : d.pw = true := by simpa using hb
    refine q_when (et_not (et_B (ev_meth (ev_var rfl) (e1 _ _ ho) (d_no ⟨by decide +kernel, by decide +kernel, by decide +kernel, by decide +kernel, by decide +kernel, by decide +kernel⟩) (ea_cons (ev_var rfl) ea_nil) (sv_sec (z := z) (D.ex e1))))) (fun hb H2 e2 => qN hp (fun h => by
      rw [decide_eq_true h.1, decide_eq_true h.2] at hb
      cases hb) H2 (e1.trans e2)) (fun hb H2 e2 => ?_)
    have hz : 0 ≤ z ∧ z < 4 * (n : Int) := by simpa using hb
    obtain ⟨s, hs⟩ := Int.eq_ofNat_of_zero_le hz.1
    have hlt : s < 4 * n := by omega
    have D2 := D.ex (e1.trans e2)
    obtain ⟨ks, h1, h2, h3⟩ := D2.s
    have hks : s < ks.length := by omega
    have ek := List.getElem?_eq_getElem hks
    refine s_retL (el_list (ev_op (ev_fld (ev_var rfl) (e2 _ _ (e1 _ _ ho)) T.cl T.ns d_s) (ev_var rfl) (rv_ixL (v := .ref ks[s]) (sq_of h1) (at_of hs (by rw [List.getElem?_map, ek]; rfl)))) (sq_of (D2.g _ _ (h3 s _ ek)))) fun l H3 hl e3 h3 => q hp s hs hlt l H3 (fresh_back (e1.trans e2) hl) ((e1.trans e2).trans e3) h3
end

end K23D

set_option Elab.async false
set_option linter.all false
set_option maxRecDepth 100000
set_option maxHeartbeats 4000000
namespace K23D
open PySem PySem.Spec PyProof.Rows L2 Evl LK LT LG LS LQ LX LO LN LP
def nV (k : Nat) : V := .int (k : Int)
/-! ### writes and what becomes of them -/
def Rw (H0 : Hp) (ws : List (Nat × List Int)) : Rel := fun i prev y H => ∃ t l w, y = .ref t ∧ ws[i]? = some w ∧ H0 t = none ∧ H0 l = none ∧ H t = some (.tup [.int (w.1 : Int), .ref l]) ∧ H l = some (.lst (w.2.map V.int)) ∧ ∀ t', V.ref t' ∈ prev → ∃ u' l', H t' = some (.tup [u', .ref l']) ∧ l' ≠ l
theorem rw_mon (H0 : Hp) (ws : List (Nat × List Int)) : Mon (Rw H0 ws) := fun i prev y H H' e ⟨t, l, w, h1, h2, h3, h4, h5, h6, h7⟩ => ⟨t, l, w, h1, h2, h3, h4, e _ _ h5, e _ _ h6, fun t' ht => let ⟨u', l', a, b⟩ := h7 t' ht; ⟨u', l', e _ _ a, b⟩⟩
def Rl (H0 : Hp) (f : Nat → List Int) : Rel := fun i prev y H => ∃ l, y = .ref l ∧ H0 l = none ∧ H l = some (.lst ((f i).map V.int)) ∧ ∀ l', V.ref l' ∈ prev → l' ≠ l
theorem rl_mon (H0 : Hp) (f : Nat → List Int) : Mon (Rl H0 f) := fun i prev y H H' e ⟨l, h1, h2, h3, h4⟩ => ⟨l, h1, h2, e _ _ h3, h4⟩
theorem alloc {H H1 : Hp} {a : Addr} {o : HO} (h : H a = some o) (hn : H1 a = none) (e : Ex H H1) : False := by
  rw [e _ _ h] at hn
  cases hn
def spSet (C : Addr) : Sp := fun vs H Q _ => ∃ G p ka sa wa n d c, ∃ cs : List Nat, vs = [.ref p, .ref c] ∧ DK C G H p ka sa wa n d ∧ H c = some (.lst (cs.map nV)) ∧ c ≠ ka ∧
  ∀ G' H1 sa' wa', St G H G' H1 → (∀ a o, H a = some o → a ≠ p → a ≠ ka → H1 a = some o) → DK C G' H1 p ka sa' wa' n { d with kept := aftN d.kept d.ws (fun j => cs.getD j 0) d.ws.length, ws := [] } → Q .non H1
def spFlush (C CO : Addr) : Sp := fun vs H Q E => ∃ G p ka sa wa n d, vs = [.ref p] ∧ DK C G H p ka sa wa n d ∧
  (on d → ∀ G' H1 sa' wa', St G H G' H1 → (∀ a o, H a = some o → a ≠ p → a ≠ ka → H1 a = some o) → DK C G' H1 p ka sa' wa' n { kept := aftN d.kept d.ws (fun _ => 8) d.ws.length, ws := [], pw := d.pw, bf := d.bf.map (· - 1) } → Q .non H1) ∧
  (¬ on d → ∀ H1, St G H G H1 → (∀ a o, H a = some o → a ≠ p → H1 a = some o) → DK C G H1 p ka sa wa n { d with pw := false } → E (.ref CO) none H1)
def spCut (C CN Pt : Addr) : Sp := fun vs H Q E => ∃ G p ka sa wa n d c xs, vs = [.ref p, .ref c] ∧ DK C G H p ka sa wa n d ∧ H c = some (.lst xs) ∧ (∀ x ∈ xs, ∃ k, Kd H x k) ∧ Tab G Pt ∧ c ≠ ka ∧
  (xs.all wc = false → ∀ H', Ex H H' → E (.ref CN) none H') ∧
  (∀ cs : List Nat, xs = (cs.map nV) → (∀ k ∈ cs, k ≤ 8) → ∀ G' H1 sa' wa', St G H G' H1 → (∀ a o, H a = some o → a ≠ p → a ≠ ka → H1 a = some o) → DK C G' H1 p ka sa' wa' n { kept := aftN d.kept d.ws (fun j => cs.getD j 0) d.ws.length, ws := [], pw := true, bf := none } → Q .non H1)
def spWait (C : Addr) : Sp := fun vs H Q _ => ∃ G p ka sa wa n d, vs = [.ref p] ∧ DK C G H p ka sa wa n d ∧ ∀ L ys H1, H L = none → Ex H H1 → H1 L = some (.lst ys) → ys.length = d.ws.length → (∀ i y, ys[i]? = some y → Rw H d.ws i (ys.take i) y H1) → Q (.ref L) H1
def spImgs (C : Addr) (g : Dk → Nat → List Int) : Sp := fun vs H Q _ => ∃ G p ka sa wa n d, vs = [.ref p] ∧ DK C G H p ka sa wa n d ∧ ∀ L ys H1, H L = none → Ex H H1 → H1 L = some (.lst ys) → ys.length = 4 * n → (∀ i y, ys[i]? = some y → Rl H (g d) i (ys.take i) y H1) → Q (.ref L) H1
def spInit (C : Addr) : Sp := fun vs H Q _ => ∃ G p dx n, vs = [.ref p, .int ((n : Nat) : Int)] ∧ Ex G H ∧ G p = none ∧ H p = some (.ins C dx []) ∧ 96 ≤ n ∧ n ≤ 256 ∧ ∀ G' ka sa wa H1, St G H G' H1 → (∀ a o, H a = some o → a ≠ p → H1 a = some o) → DK C G' H1 p ka sa wa n ⟨fun _ => Z8, [], true, none⟩ → Q .non H1
section
variable {P : Program} {w : World} {K : PySem.W.Frag} {mg : Str → Option Value} {base : Heap} {C CN CO : Addr}
theorem ok_write {f fS fA fB Pt : Addr} {fd fdS fdA fdB : FuncData} (F : Fun K "write" "Disk.write" sWrite f fd) (Gis_sector : FnOk P w K mg base CX0 2 fS fdS ["self", "sector"] (spSec C)) (bis_sector : Binds K fdS ["self", "sector"] []) (mis_sector : Meth K C "_is_sector" fS) (FAw : Fun K "are_words" "are_words" sAre fA fdA) (GAw : FnOk P w K mg base CX0 1 fA fdA ["values", "many"] (spAre Pt)) (bAw : Binds K fdA ["values", "many"] []) (gAw : mg "are_words" = some (.ref fA))
    (Gbegin_operation : FnOk P w K mg base (L2.CX P w) 1 fB fdB ["self"] (spBeg C CO)) (bbegin_operation : Binds K fdB ["self"] []) (mbegin_operation : Meth K C "_begin_operation" fB) (T : Txt mg K C) (XN : Xc K mg "NotValid" CN) : FnOk P w K mg base (L2.CX P w) 3 f fd ["self", "sector", "words"] (spWrite C CN CO Pt) := by
  obtain ⟨_, gSECTOR_WORDS⟩ := T.gSECTOR_WORDS
  refine F.okX scWrite (fun vs H Q E h => ?_) (fun cdv A outer s H vs Q E hr h => ?_)
  · obtain ⟨G, p, ka, sa, wa, n, d, z, u, xs, rfl, _⟩ := h
    rfl
  · obtain ⟨G, p, ka, sa, wa, n, d, z, u, xs, rfl, D, hu, hk, hT, hl, hup, qN, q, qO⟩ := h
    obtain ⟨dx, ho⟩ := D.o
    refine ⟨_, (pss_cons (ps_if (PW.pt (pw_or (pt_not (pt_val (pe_meth (pv 0) T.cl mis_sector Gis_sector (hr.mono (by decide)) bis_sector .nil pass0 (pa_cons (pv 1) pa_nil)))) (pw_or1 (pt_not (pt_val (pe_call GAw (hr.mono (by decide)) (by rfl) gAw FAw.kp bAw .nil pass0 (pa_cons (pv 2) (pa_cons (pe_glob (v := .int 8) rfl gSECTOR_WORDS ⟨_, rfl⟩) pa_nil)))))))) (pss_one (ps_raise0 rfl XN (takes_of rfl rfl rfl rfl) (by rfl))) pss_nil)
      (pss_cons (ps_expr (pe_meth0 (pv 0) T.cl mbegin_operation Gbegin_operation (hr.mono (by decide)) bbegin_operation .nil (pass_own (takes_of rfl rfl rfl rfl))))
      (pss_cons (ps_set (i := 3) scWrite.nd rfl (Or.inl rfl) (pe_callTy call_list_of (by rfl) T.list (by decide +kernel) (pa_cons (pv 2) pa_nil)))
      (pss_cons (ps_expr (pe_bm PySem.F.plainAttrs_list PySem.F.slot_list_append PySem.F.type_list_append mt_append (pe_fld (pv 0) rfl) (pa_cons (pe_tup (pa_cons (pv 1) (pa_cons (pv 3) pa_nil))) pa_nil)))
      (pss_one (ps_asg (pv 3) (pg_sub (pe_fld (pv 0) rfl) (pv 1) set_list))))))), ?_⟩
    refine q_when (et_or (et_not (et_B (ev_meth (ev_var rfl) ho (d_no ⟨by decide +kernel, by decide +kernel, by decide +kernel, by decide +kernel, by decide +kernel, by decide +kernel⟩) (ea_cons (ev_var rfl) ea_nil) (sv_sec (z := z) D)))) (fun _ => et_not (et_B (ev_call (vs := [.ref u, .int 8]) (ea_cons (ev_var rfl) (ea_cons ev_c ea_nil)) (fun H1 e1 Q' q' E' => ⟨(hT.mono D.g).mono e1, u, xs, 8, rfl, e1 _ _ hu, fun x hx => let ⟨k, h⟩ := hk x hx; ⟨k, h.mono e1⟩, q'⟩))))) (fun hb H1 e1 => ?_) (fun hb H1 e1 => ?_)
    · refine qN (fun ⟨h1, h2, h3⟩ => ?_) H1 e1
      rw [decide_eq_true h1.1, decide_eq_true h1.2, h3, h2] at hb
      cases hb
    · have hz : InS n z ∧ okW xs := by
        simp at hb
        refine ⟨⟨by omega, by omega⟩, by omega, ?_⟩
        rw [List.all_eq_true]
        exact hb.2.2
      obtain ⟨s, hs⟩ := Int.eq_ofNat_of_zero_le hz.1.1
      have hlt : s < 4 * n := by have := hz.1.2; omega
      obtain ⟨ns, hns, hnn⟩ := okW_ints hz.2.2
      have hnl : ns.length = 8 := by have := hz.2.1; rw [hns, List.length_map] at this; exact this
      refine q_m (ev_var rfl) (e1 _ _ ho) (d_no ⟨by decide +kernel, by decide +kernel, by decide +kernel, by decide +kernel, by decide +kernel, by decide +kernel⟩) ea_nil fun H2 e2 => ⟨G, p, ka, sa, wa, n, d, rfl, D.ex (e1.trans e2), fun hon H3 al fr D3 => ?_, fun hno H3 al fr D3 => qO hno hz H3 ⟨Ex.refl _, fun _ _ g => g, fun a h z => al a (fun z => h (fresh_back (e1.trans e2) z)) z⟩ (fun a o h hp => fr a o ((e1.trans e2) _ _ h) hp) D3⟩
      have e12 := e1.trans e2
      have al3 : ∀ a, H a ≠ none → H3 a ≠ none := fun a h => al a (fun z => h (fresh_back e12 z))
      have hu3 := fr _ _ (e12 _ _ hu) hup
      refine q_asgL (el_list (ev_var rfl) (sq_of hu3)) fun l H4 hl4 e4 h4 => ?_
      have D4 := D3.ex e4
      obtain ⟨dx4, ho4⟩ := D4.o
      obtain ⟨n1, n2, n3⟩ := D4.np
      obtain ⟨ts, w1, w2, w3⟩ := D4.w
      obtain ⟨ks, s1, s2, s3⟩ := D4.s
      have htl : (ts.map V.ref).length < 100000 := by rw [List.length_map, w2]; show d.ws.length < 100000; omega
      refine q_appU w1 (ev_fld (ev_var rfl) ho4 T.cl T.nw d_w) (eu_tup (ea_cons (ev_var rfl) (ea_cons (ev_var rfl) ea_nil)) (by simp)) htl fun t H5 ht5 e5 h5 => ?_
      have sa6 : (upd H5 wa (.lst (ts.map V.ref ++ [.ref t]))) sa = some (.lst (ks.map V.ref)) := by rw [upd_ne D.nsw]; exact e5 _ _ s1
      have ho6 : (upd H5 wa (.lst (ts.map V.ref ++ [.ref t]))) p = some (.ins C dx4 (dfl n ka sa wa d.pw (d.bf.map (· - 1)))) := by rw [upd_ne n3]; exact e5 _ _ ho4
      refine s_setL (j := s) sa6 (ev_var rfl) (ev_fld (ev_var rfl) ho6 T.cl T.ns d_s) (by rw [← hs]; exact ev_var rfl) (by rw [List.length_map, s2]; exact hlt) fun H7 e7 => ?_
      have sT : ∀ a o, H5 a = some o → a ≠ wa → a ≠ sa → (upd H7 sa (.lst ((ks.map V.ref).set s (.ref l)))) a = some o := fun a o h h1 h2 => by
        rw [upd_ne h2]
        exact e7 _ _ (by rw [upd_ne h1]; exact h)
      have wT : (upd H7 sa (.lst ((ks.map V.ref).set s (.ref l)))) wa = some (.lst (ts.map V.ref ++ [.ref t])) := by
        rw [upd_ne D.nsw.symm]
        exact e7 _ _ upd_same
      have sS : (upd H7 sa (.lst ((ks.map V.ref).set s (.ref l)))) sa = some (.lst ((ks.map V.ref).set s (.ref l))) := upd_same
      have gT : Ex G (upd H7 sa (.lst ((ks.map V.ref).set s (.ref l)))) := (((D4.g.trans e5).mut D.gw).trans e7).mut D.gs
      have aT : ∀ a, H5 a ≠ none → (upd H7 sa (.lst ((ks.map V.ref).set s (.ref l)))) a ≠ none := fun a h z => by
        by_cases h2 : a = sa
        · rw [h2, upd_same] at z
          cases z
        · rw [upd_ne h2] at z
          have z5 := fresh_back e7 z
          by_cases h1 : a = wa
          · rw [h1, upd_same] at z5
            cases z5
          · rw [upd_ne h1] at z5
            exact h z5
      generalize upd H7 sa (.lst ((ks.map V.ref).set s (.ref l))) = HX at *
      have e45 := e4.trans e5
      obtain ⟨ap3, ak3, as3, aw3⟩ := D3.al
      obtain ⟨ap, ak, as, aw⟩ := D.al
      obtain ⟨ap4, ak4, as4, aw4⟩ := D4.al
      have l_wa : l ≠ wa := fun e => aw3 (by rw [← e]; exact hl4)
      have l_sa : l ≠ sa := fun e => as3 (by rw [← e]; exact hl4)
      have t_wa : t ≠ wa := fun e => aw4 (by rw [← e]; exact ht5)
      have t_sa : t ≠ sa := fun e => as4 (by rw [← e]; exact ht5)
      have hl0 : H l = none := Classical.byContradiction fun h => al3 l h hl4
      have ht0 : H t = none := Classical.byContradiction fun h => al3 t h (fresh_back e4 ht5)
      have gl : grow G H HX (fun _ => False) l = some (.lst xs) := grow_new (fresh_back D.g hl0) hl0 id (sT l _ (e5 _ _ h4) l_wa l_sa)
      have gt : grow G H HX (fun _ => False) t = some (.tup [.int z, .ref l]) := grow_new (fresh_back D.g ht0) ht0 id (sT t _ h5 t_wa t_sa)
      obtain ⟨ks0, k1, k2, k3⟩ := D4.k
      refine q hon s ns hs hlt hns hnl hnn (grow G H HX fun _ => False) HX ⟨grow_ex, fun a h g => grow_no h g, fun a h => aT a (fun z => al3 a h (fresh_back e45 z))⟩ (fun a o h hp hsa hwa => sT a o (e45 _ _ (fr a o (e12 _ _ h) hp)) hwa hsa)
        ⟨grow_sub gT, grow_no ap D.gp, grow_no ak D.gk, grow_no as D.gs, grow_no aw D.gw, D.nks, D.nkw, D.nsw, ⟨dx4, sT p _ (e5 _ _ ho4) n3 n2⟩, ⟨ks0, sT ka _ (e5 _ _ k1) D.nkw D.nks, k2, fun i a ha => grow_ex _ _ (k3 i a ha)⟩, ⟨ks.set s l, by rw [List.map_set]; exact sS, by rw [List.length_set, s2], fun i a ha => ?_⟩, ⟨ts ++ [t], by rw [List.map_append]; exact wT, by rw [List.length_append, List.length_append, w2]; rfl, fun i t' w' ht' hw' => ?_⟩, D.n0, D.n1, ?_, ?_, D.kz⟩
      · show grow G H HX (fun _ => False) a = some (.lst ((due d.kept (d.ws ++ [(s, ns)]) i).map V.int))
        rw [due_snoc]
        unfold fset
        by_cases hi : i = s
        · subst hi
          rw [List.getElem?_set_self (by rw [s2]; exact hlt)] at ha
          cases ha
          rw [if_pos rfl, gl, hns]
        · rw [List.getElem?_set_ne (fun e => hi e.symm)] at ha
          rw [if_neg hi]
          exact grow_ex _ _ (s3 i a ha)
      · by_cases hi : i < ts.length
        · rw [List.getElem?_append_left hi] at ht'
          rw [List.getElem?_append_left (by rw [← w2]; exact hi)] at hw'
          obtain ⟨l', a, b⟩ := w3 i t' w' ht' hw'
          exact ⟨l', grow_ex _ _ a, grow_ex _ _ b⟩
        · have hi2 : i = ts.length := by
            have := (List.getElem?_eq_some_iff.mp ht').1
            rw [List.length_append] at this
            simp only [List.length_cons, List.length_nil] at this
            omega
          subst hi2
          rw [List.getElem?_append_right (Nat.le_refl _), Nat.sub_self] at ht'
          rw [w2, List.getElem?_append_right (Nat.le_refl _), Nat.sub_self] at hw'
          cases ht'
          cases hw'
          exact ⟨l, by rw [gt, hs], by rw [gl, hns]⟩
      · show (d.ws ++ [(s, ns)]).length ≤ 100
        rw [List.length_append]
        simp only [List.length_cons, List.length_nil]
        omega
      · intro w' hw'
        rcases List.mem_append.mp hw' with h | h
        · exact D.ok w' h
        · rw [List.mem_singleton.mp h]
          exact ⟨hlt, hnl⟩
theorem ok_set {f : Addr} {fd : FuncData} (F : Fun K "_settle_writes" "Disk._settle_writes" sSet f fd) (T : Txt mg K C) : FnOk P w K mg base CX0 1 f fd ["self", "choices"] (spSet C) := by
  refine F.ok scSet (fun vs H Q E h => ?_) (fun cdv A outer s H vs Q E hr h => ?_)
  · obtain ⟨G, p, ka, sa, wa, n, d, c, cs, rfl, _⟩ := h
    rfl
  · obtain ⟨G, p, ka, sa, wa, n, d, c, cs, rfl, D, hc, hck, q⟩ := h
    obtain ⟨dx, ho⟩ := D.o
    obtain ⟨n1, n2, n3⟩ := D.np
    obtain ⟨ap, ak, as, aw⟩ := D.al
    obtain ⟨ts, w1, w2, w3⟩ := D.w
    refine ⟨_, (pss_cons (ps_for PassesOwn.never rfl (pi_zip (by rfl) T.zip (pa_cons (pe_fld (pv 0) rfl) (pa_cons (pv 1) pa_nil))) (pg_tup (by rfl) (pgs_cons (pg_tup (by rfl) (pgs_cons (pg_name (i := 2) scSet.nd rfl (Or.inl rfl)) (pgs_cons (pg_name (i := 3) scSet.nd rfl (Or.inl rfl)) pgs_nil))) (pgs_cons (pg_name (i := 4) scSet.nd rfl (Or.inl rfl)) pgs_nil))) (pss_one (ps_asg (pe_op op_cat (pe_slice sl_list (pv 3) po_none (po_some (pv 4))) (pe_slice sl_list (pe_ix ix_list (pe_fld (pv 0) rfl) (pv 2) (fun _ _ => rfl)) (po_some (pv 4)) po_none)) (pg_sub (pe_fld (pv 0) rfl) (pv 2) set_list))))
      (pss_cons (ps_fld (pv 0) (pe_callTy call_list_of (by rfl) T.list (by decide +kernel) (pa_cons (pe_fld (pv 0) rfl) pa_nil)) rfl)
      (pss_one (ps_fld (pv 0) (pe_lst pa_nil) rfl)))), ?_⟩
    refine q_forZ (ea_cons (ev_fld (ev_var rfl) ho T.cl T.nw d_w) (ea_cons (ev_var rfl) ea_nil)) (sq_of w1) (sq_of hc) (fun i σ' H' => ∃ (y2 y3 y4 : Option V) (ks : List Addr), σ' = [some (.ref p), some (.ref c), y2, y3, y4] ∧ Ex G H' ∧ (∀ a, H a ≠ none → H' a ≠ none) ∧ (∀ a o, H a = some o → a ≠ ka → H' a = some o) ∧ H' ka = some (.lst (ks.map V.ref)) ∧ ks.length = 4 * n ∧
      ∀ (j : Nat) (a : Addr), ks[j]? = some a → G a = some (.lst ((aftN d.kept d.ws (fun j => cs.getD j 0) i j).map V.int)) ∨ (H a = none ∧ H' a = some (.lst ((aftN d.kept d.ws (fun j => cs.getD j 0) i j).map V.int)))) ?_ ?_ ?_ ?_
    · intro H1 e1
      obtain ⟨ks, k1, k2, k3⟩ := D.k
      exact ⟨none, none, none, ks, rfl, D.g.trans e1, fun a h z => h (fresh_back e1 z), fun a o h _ => e1 _ _ h, e1 _ _ k1, k2, fun j a ha => .inl (k3 j a ha)⟩
    · rintro i σ' H' ⟨y2, y3, y4, ks, rfl, g', al, fr, k1, k2, k3⟩
      exact ⟨sq_of (fr _ _ w1 D.nkw.symm), sq_of (fr _ _ hc hck)⟩
    · rintro i x y TT σ' H' hx hy ⟨y2, y3, y4, ks, rfl, g', al, fr, k1, k2, k3⟩ hTT
      rw [List.getElem?_map] at hx hy
      obtain ⟨t, ht, rfl⟩ := Option.map_eq_some_iff.mp hx
      obtain ⟨m, hm, hmy⟩ := Option.map_eq_some_iff.mp hy
      obtain rfl : y = V.int (m : Int) := hmy.symm
      have hi : i < d.ws.length := by rw [← w2]; exact (List.getElem?_eq_some_iff.mp ht).1
      have hwi := List.getElem?_eq_getElem hi
      generalize d.ws[i] = wv at hwi
      obtain ⟨l, g1, g2⟩ := w3 i t wv ht hwi
      obtain ⟨hs, h8⟩ := D.ok wv (List.mem_of_getElem? hwi)
      have eN := Ex.new (o := .tup [.ref t, .int (m : Int)]) hTT
      have gN := g'.trans eN
      have kk := eN _ _ k1
      refine ⟨TT, [.ref t, .int (m : Int)], rfl, st_of upd_same, rfl, .ref t, [.int (m : Int)], rfl, t, [.int (wv.1 : Int), .ref l], rfl, st_of (gN _ _ g1), rfl, _, [_], rfl, _, [], rfl, rfl, _, [], rfl, rfl, ?_⟩
      have hks : wv.1 < ks.length := by rw [k2]; exact hs
      have ek := List.getElem?_eq_getElem hks
      generalize ks[wv.1] = b at ek
      have hb : (upd H' TT (.tup [.ref t, .int (m : Int)])) b = some (.lst ((aftN d.kept d.ws (fun j => cs.getD j 0) i wv.1).map V.int)) := by
        rcases k3 _ _ ek with h | h
        · exact gN _ _ h
        · exact eN _ _ h.2
      have hpN := eN _ _ (fr _ _ ho n1)
      generalize upd H' TT (.tup [.ref t, .int (m : Int)]) = HN at *
      have hlen := aft_len (c := fun j => cs.getD j 0) D.kz (fun w hw => (D.ok w hw).2) i (by omega) wv.1
      refine s_setLL (j := wv.1) (ys := ((wv.2.take m ++ (aftN d.kept d.ws (fun j => cs.getD j 0) i wv.1).drop m)).map V.int) kk (el_is (el_catL (el_sl (ev_var rfl) eo_none (eo_some (ev_var rfl)) (sq_of (gN _ _ g2))) (el_sl (ev_op (ev_fld (ev_var rfl) hpN T.cl T.nk d_k) (ev_var rfl) (rv_ixL (v := .ref b) (sq_of kk) (atI_nat (by rw [List.getElem?_map, ek]; rfl)))) (eo_some (ev_var rfl)) eo_none (sq_of hb)) ?_) ?_) (ev_fld (ev_var rfl) hpN T.cl T.nk d_k) (ev_var rfl) (by rw [List.length_map]; exact hks) fun r H2 hr2 e2 h2 => ?_
      · rw [cut_lo, cut_hi, List.length_take, List.length_drop, List.length_map, List.length_map]
        omega
      · rw [cut_lo, cut_hi, List.map_append, List.map_take, List.map_drop]
      · have aN : ∀ a, H a ≠ none → HN a ≠ none := fun a h z => al a h (fresh_back eN z)
        have rk : r ≠ ka := fun e => aN ka ak (by rw [← e]; exact hr2)
        have hr0 : H r = none := Classical.byContradiction fun h => aN r h hr2
        have cN : aftN d.kept d.ws (fun j => cs.getD j 0) (i + 1) = fset (aftN d.kept d.ws (fun j => cs.getD j 0) i) wv.1 (wv.2.take m ++ (aftN d.kept d.ws (fun j => cs.getD j 0) i wv.1).drop m) := by
          show stepA (aftN d.kept d.ws (fun j => cs.getD j 0) i) (d.ws.getD i (0, [])) (cs.getD i 0) = _
          rw [getD_in hwi, getD_in hm]
          rfl
        refine ⟨_, _, _, ks.set wv.1 r, rfl, (gN.trans e2).mut D.gk, fun a h z => ?_, fun a o h hn => ?_, by rw [upd_same, List.map_set], by rw [List.length_set, k2], fun j a ha => ?_⟩
        · by_cases e : a = ka
          · rw [e, upd_same] at z
            cases z
          · rw [upd_ne e] at z
            exact aN a h (fresh_back e2 z)
        · rw [upd_ne hn]
          exact e2 _ _ (eN _ _ (fr a o h hn))
        · rw [cN]
          unfold fset
          by_cases hj : j = wv.1
          · subst hj
            rw [List.getElem?_set_self hks] at ha
            cases ha
            rw [if_pos rfl, upd_ne rk]
            exact .inr ⟨hr0, h2⟩
          · rw [List.getElem?_set_ne (fun e => hj e.symm)] at ha
            rw [if_neg hj]
            refine (k3 j a ha).imp id fun h => ⟨h.1, ?_⟩
            rw [upd_ne (fun e => ak (by rw [← e]; exact h.1))]
            exact e2 _ _ (eN _ _ h.2)
    · rintro σ' H' ⟨y2, y3, y4, ks, rfl, g', al, fr, k1, k2, k3⟩
      have hp' := fr _ _ ho n1
      have eA : aftN d.kept d.ws (fun j => cs.getD j 0) (min (ts.map V.ref).length (cs.map nV).length) = aftN d.kept d.ws (fun j => cs.getD j 0) d.ws.length := by
        rw [List.length_map, List.length_map, w2]
        by_cases h : d.ws.length ≤ cs.length
        · rw [Nat.min_eq_left h]
        · rw [Nat.min_eq_right (by omega)]
          have := aft_stop (f := d.kept) (ws := d.ws) (c := fun j => cs.getD j 0) (i := cs.length) (fun j hj => by
            show cs.getD j 0 = 0
            rw [List.getD_eq_getElem?_getD, List.getElem?_eq_none hj]
            rfl) (d.ws.length - cs.length)
          rw [← this]
          congr 1
          omega
      rw [eA] at k3
      refine q_fldL (el_list (ev_fld (ev_var rfl) hp' T.cl T.nk d_k) (sq_of k1)) (ev_var rfl) hp' T.cl T.ns (by show 6 < 1000; decide) fun s2 H2 hs2 e2 h2 => ?_
      rw [d_ps]
      refine s_fldL (el_lst ea_nil (by simp)) (ev_var rfl) upd_same T.cl T.nw (by show 6 < 1000; decide) fun w4 H4 hw4 e4 h4 => ?_
      rw [d_pw]
      have a2 : ∀ a, H a ≠ none → H2 a ≠ none := fun a h z => al a h (fresh_back e2 z)
      have s2_0 : H s2 = none := Classical.byContradiction fun h => al s2 h hs2
      have pS : p ≠ s2 := fun e => ap (by rw [e]; exact s2_0)
      have kS : ka ≠ s2 := fun e => ak (by rw [e]; exact s2_0)
      have w4_2 : H2 w4 = none := by
        by_cases e : w4 = p
        · rw [e, upd_same] at hw4
          cases hw4
        · rw [upd_ne e] at hw4
          exact hw4
      have w4_0 : H w4 = none := Classical.byContradiction fun h => a2 w4 h w4_2
      have pW : p ≠ w4 := fun e => ap (by rw [e]; exact w4_0)
      have kW : ka ≠ w4 := fun e => ak (by rw [e]; exact w4_0)
      have sW : s2 ≠ w4 := fun e => by
        rw [← e, h2] at w4_2
        cases w4_2
      have fX : ∀ a o, H2 a = some o → a ≠ p → (upd H4 p (.ins C dx (dfl n ka s2 w4 d.pw d.bf))) a = some o := fun a o h hn => by
        rw [upd_ne hn]
        exact e4 _ _ (by rw [upd_ne hn]; exact h)
      have aX : ∀ a, H2 a ≠ none → (upd H4 p (.ins C dx (dfl n ka s2 w4 d.pw d.bf))) a ≠ none := fun a h z => by
        by_cases e : a = p
        · rw [e, upd_same] at z
          cases z
        · rw [upd_ne e] at z
          have z2 := fresh_back e4 z
          rw [upd_ne e] at z2
          exact h z2
      have wX : (upd H4 p (.ins C dx (dfl n ka s2 w4 d.pw d.bf))) w4 = some (.lst []) := by
        rw [upd_ne pW.symm]
        exact h4
      have pX : (upd H4 p (.ins C dx (dfl n ka s2 w4 d.pw d.bf))) p = some (.ins C dx (dfl n ka s2 w4 d.pw d.bf)) := upd_same
      have gX : Ex G (upd H4 p (.ins C dx (dfl n ka s2 w4 d.pw d.bf))) := (((g'.trans e2).mut D.gp).trans e4).mut D.gp
      generalize upd H4 p (.ins C dx (dfl n ka s2 w4 d.pw d.bf)) = HX at *
      have row : ∀ (j : Nat) (a : Addr), ks[j]? = some a → grow G H HX (fun a => a = s2 ∨ a = w4) a = some (.lst ((aftN d.kept d.ws (fun j => cs.getD j 0) d.ws.length j).map V.int)) := fun j a ha => by
        rcases k3 j a ha with h | h
        · exact grow_ex _ _ h
        · have ap' : a ≠ p := fun e => ap (by rw [← e]; exact h.1)
          have as' : a ≠ s2 := fun e => by
            rw [← e, h.2] at hs2
            cases hs2
          have aw' : a ≠ w4 := fun e => by
            have := e2 _ _ h.2
            rw [e, w4_2] at this
            cases this
          exact grow_new (fresh_back D.g h.1) h.1 (fun z => z.elim as' aw') (fX _ _ (e2 _ _ h.2) ap')
      refine q (grow G H HX fun a => a = s2 ∨ a = w4) HX s2 w4 ⟨grow_ex, fun a h g => grow_no h g, fun a h => aX a (a2 a h)⟩ (fun a o h hp hk => fX a o (e2 _ _ (fr a o h hk)) hp)
        ⟨grow_sub gX, grow_no ap D.gp, grow_no ak D.gk, grow_X (.inl rfl) (fresh_back D.g s2_0), grow_X (.inr rfl) (fresh_back D.g w4_0), kS, kW, sW, ⟨dx, pX⟩, ⟨ks, fX _ _ (e2 _ _ k1) n1.symm, k2, row⟩, ⟨ks, fX _ _ h2 pS.symm, k2, row⟩, ⟨[], wX, rfl, fun i t w' ht => by simp at ht⟩, D.n0, D.n1, Nat.zero_le _, fun w' hw' => absurd hw' List.not_mem_nil, aft_len D.kz (fun w hw => (D.ok w hw).2) _ (Nat.le_refl _)⟩
end

end K23D

set_option Elab.async false
set_option linter.all false
set_option maxRecDepth 100000
set_option maxHeartbeats 4000000
namespace K23D
open PySem PySem.Spec PyProof.Rows L2 Evl LK LT LG LS LQ LX LO LN LP
theorem nV_ints (cs : List Nat) : cs.map nV = (cs.map fun k : Nat => (k : Int)).map V.int := by
  rw [List.map_map]
  rfl
theorem wc_nats : ∀ {xs : List V}, xs.all wc = true → ∃ cs : List Nat, xs = cs.map nV ∧ ∀ k ∈ cs, k ≤ 8
  | [], _ => ⟨[], rfl, fun z hz => absurd hz List.not_mem_nil⟩
  | x :: r, h => by
    rw [List.all_cons, Bool.and_eq_true] at h
    obtain ⟨ns, e, hn⟩ := wc_nats h.2
    cases x with
    | int i =>
      have h0 : (decide (0 ≤ i) && decide (i ≤ 8)) = true := h.1
      have h1 : 0 ≤ i ∧ i ≤ 8 := by simpa using h0
      obtain ⟨k, rfl⟩ := Int.eq_ofNat_of_zero_le h1.1
      exact ⟨k :: ns, by rw [e]; rfl, fun z hz => by
        rcases List.mem_cons.mp hz with rfl | h
        · omega
        · exact hn z h⟩
    | _ => cases h.1
theorem nats_wc {cs : List Nat} (h : ∀ k ∈ cs, k ≤ 8) : (cs.map nV).all wc = true := by
  rw [List.all_eq_true]
  intro x hx
  obtain ⟨z, hz, rfl⟩ := List.mem_map.mp hx
  have := h z hz
  show (decide ((0 : Int) ≤ (z : Int)) && decide ((z : Int) ≤ 8)) = true
  rw [decide_eq_true (by omega), decide_eq_true (by omega)]
  rfl
theorem nV_inj : ∀ {cs ds : List Nat}, cs.map nV = ds.map nV → cs = ds
  | [], [], _ => rfl
  | [], d :: s, h => by simp at h
  | c :: r, [], h => by simp at h
  | c :: r, d :: s, h => by
    rw [List.map_cons, List.map_cons] at h
    injection h with h1 h2
    have h3 : (c : Int) = (d : Int) := V.int.inj h1
    rw [nV_inj h2]
    congr 1
    omega
section
variable {P : Program} {w : World} {K : PySem.W.Frag} {mg : Str → Option Value} {base : Heap} {C CN CO : Addr}
theorem ok_flush {f fB fS : Addr} {fd fdB fdS : FuncData} (F : Fun K "flush" "Disk.flush" sFlush f fd) (Gbegin_operation : FnOk P w K mg base (L2.CX P w) 1 fB fdB ["self"] (spBeg C CO)) (bbegin_operation : Binds K fdB ["self"] []) (mbegin_operation : Meth K C "_begin_operation" fB) (Gsettle_writes : FnOk P w K mg base CX0 1 fS fdS ["self", "choices"] (spSet C)) (bsettle_writes : Binds K fdS ["self", "choices"] []) (msettle_writes : Meth K C "_settle_writes" fS) (T : Txt mg K C) : FnOk P w K mg base (L2.CX P w) 2 f fd ["self"] (spFlush C CO) := by
  obtain ⟨_, gSECTOR_WORDS⟩ := T.gSECTOR_WORDS
  refine F.okX scFlush (fun vs H Q E h => ?_) (fun cdv A outer s H vs Q E hr h => ?_)
  · obtain ⟨G, p, ka, sa, wa, n, d, rfl, _⟩ := h
    rfl
  · obtain ⟨G, p, ka, sa, wa, n, d, rfl, D, q, qO⟩ := h
    obtain ⟨dx, ho⟩ := D.o
    refine ⟨_, (pss_cons (ps_expr (pe_meth0 (pv 0) T.cl mbegin_operation Gbegin_operation (hr.mono (by decide)) bbegin_operation .nil (pass_own (takes_of rfl rfl rfl rfl))))
      (pss_one (ps_expr (pe_meth (pv 0) T.cl msettle_writes Gsettle_writes (hr.mono (by decide)) bsettle_writes .nil pass0 (pa_cons (pe_op op_rep (pe_lst (pa_cons (pe_glob (v := .int 8) rfl gSECTOR_WORDS ⟨_, rfl⟩) pa_nil)) (pe_callB call_len_seq (by rfl) T.len (by decide +kernel) (pa_cons (pe_fld (pv 0) rfl) pa_nil))) pa_nil))))), ?_⟩
    refine q_m (ev_var rfl) ho (d_no ⟨by decide +kernel, by decide +kernel, by decide +kernel, by decide +kernel, by decide +kernel, by decide +kernel⟩) ea_nil fun H2 e2 => ⟨G, p, ka, sa, wa, n, d, rfl, D.ex e2, fun hon H3 al fr D3 => ?_, fun hno H3 al fr D3 => qO hno H3 ⟨Ex.refl _, fun _ _ g => g, fun a h z => al a (fun z => h (fresh_back e2 z)) z⟩ (fun a o h hp => fr a o (e2 _ _ h) hp) D3⟩
    have al3 : ∀ a, H a ≠ none → H3 a ≠ none := fun a h => al a (fun z => h (fresh_back e2 z))
    obtain ⟨dx3, ho3⟩ := D3.o
    obtain ⟨ts, w1, w2, w3⟩ := D3.w
    have hwl : d.ws.length ≤ 100 := D.wl
    have w2' : ts.length = d.ws.length := w2
    refine mR_run (ev_var rfl) ho3 (d_no ⟨by decide +kernel, by decide +kernel, by decide +kernel, by decide +kernel, by decide +kernel, by decide +kernel⟩) (el_rep1 (el_lst (ea_cons ev_c ea_nil) (by simp)) (ev_len (ev_fld (ev_var rfl) ho3 T.cl T.nw d_w) (sq_of w1)) (by omega) (by rw [List.length_map]; omega)) fun c H5 hc e5 h5 => ?_
    have D5 := D3.ex e5
    have hck : c ≠ ka := fun e => D3.al.2.1 (by rw [← e]; exact hc)
    refine ⟨G, p, ka, sa, wa, n, _, c, List.replicate d.ws.length 8, rfl, D5, ?_, hck, fun G' H6 sa' wa' S6 fr6 D6 => ?_⟩
    · rw [h5, List.length_map, w2', List.map_replicate]
      rfl
    · have ec : aftN d.kept d.ws (fun j => (List.replicate d.ws.length 8).getD j 0) d.ws.length = aftN d.kept d.ws (fun _ => 8) d.ws.length := aft_cong fun j hj => by
        rw [List.getD_eq_getElem?_getD, List.getElem?_replicate, if_pos hj]
        rfl
      have D7 : DK C G' H6 p ka sa' wa' n { kept := aftN d.kept d.ws (fun _ => 8) d.ws.length, ws := [], pw := d.pw, bf := d.bf.map (· - 1) } := by
        rw [← ec]
        exact D6
      exact q hon G' H6 sa' wa' ⟨S6.g, fun a h g => S6.n a (fun z => al3 a h (fresh_back e5 z)) g, fun a h => S6.a a (fun z => al3 a h (fresh_back e5 z))⟩ (fun a o h hp hk => fr6 a o (e5 _ _ (fr a o (e2 _ _ h) hp)) hp hk) D7
theorem ok_wait {f : Addr} {fd : FuncData} (F : Fun K "waiting" "Disk.waiting" sWait f fd) (T : Txt mg K C) : FnOk P w K mg base CX0 1 f fd ["self"] (spWait C) := by
  refine F.ok scWait (fun vs H Q E h => ?_) (fun cdv A outer s H vs Q E hr h => ?_)
  · obtain ⟨G, p, ka, sa, wa, n, d, rfl, _⟩ := h
    rfl
  · obtain ⟨G, p, ka, sa, wa, n, d, rfl, D, q⟩ := h
    obtain ⟨dx, ho⟩ := D.o
    obtain ⟨ts, w1, w2, w3⟩ := D.w
    have hwl := D.wl
    refine ⟨_, (pss_one (ps_ret (pe_lc (own := [("sector", 1), ("words", 2)]) (g := gTup K 2 (gCons (gName 1) (gCons (gName 2) gNil))) (tt := tYes) rfl scWait.nd (pi_list (pe_fld (pv 0) rfl)) (blkOk_by (own := [("sector", 1), ("words", 2)]) (N := ["self", "sector", "words"]) (sc := defScope sWait) (by decide +kernel)) (fun _ _ _ _ _ => pg_tup rfl (pgs_cons (pg_name (i := 1) scWait.nd rfl (Or.inl rfl)) (pgs_cons (pg_name (i := 2) scWait.nd rfl (Or.inl rfl)) pgs_nil))) (fun _ _ _ _ _ => pts_nil) (fun _ _ _ _ _ => (pe_tup (pa_cons (pv 1) (pa_cons (pe_callTy (r := rListS K) call_list_of (by rfl) T.list (by decide +kernel) (pa_cons (pv 2) pa_nil)) pa_nil))))))), ?_⟩
    refine er_ret (R := Rw H d.ws) (er_L2 (ev_fld (ev_var rfl) ho T.cl T.nw d_w) (sq_of w1) (by rw [List.length_map]; omega) (fun _ _ => rfl) (rw_mon _ _) (fun i x Dd H1 hD e1 hDn hx => ?_)) fun L ys H1 hL e1 h1 hn hr => q L ys H1 hL e1 h1 (by rw [hn, List.length_map, w2]) hr
    rw [List.getElem?_map] at hx
    obtain ⟨t, ht, rfl⟩ := Option.map_eq_some_iff.mp hx
    have hi : i < d.ws.length := by rw [← w2]; exact (List.getElem?_eq_some_iff.mp ht).1
    have hwi := List.getElem?_eq_getElem hi
    generalize d.ws[i] = wv at hwi
    obtain ⟨l, g1, g2⟩ := w3 i t wv ht hwi
    have gH := D.g.trans e1
    refine ⟨t, _, _, rfl, st_of (gH _ _ g1), fun xs hxs hpre Q' q' => ?_⟩
    refine ⟨.int (wv.1 : Int), rfl, el_list (K := K) (ev_var rfl) (sq_of (gH _ _ g2)) H1 (Ex.refl _) _ fun l2 H2 hl2 e2 h2 => ⟨by show 2 ≤ sizeLine; decide, fun t2 ht2 => ?_⟩⟩
    have eT := Ex.new (o := .tup [.int (wv.1 : Int), .ref l2]) ht2
    have b1 : but Dd (upd H2 t2 (.tup [.int (wv.1 : Int), .ref l2])) t2 = some (.tup [.int (wv.1 : Int), .ref l2]) := but_new hDn (fresh_back e2 ht2) upd_same
    have b2 : but Dd (upd H2 t2 (.tup [.int (wv.1 : Int), .ref l2])) l2 = some (.lst (wv.2.map V.int)) := but_new hDn hl2 (eT _ _ h2)
    refine q' (.ref t2) _ (e2.trans eT) ⟨t2, l2, wv, rfl, hwi, fresh_back (e1.trans e2) ht2, fresh_back e1 hl2, b1, b2, fun t' ht' => ?_⟩
    obtain ⟨j, hj⟩ := List.mem_iff_getElem?.mp ht'
    obtain ⟨t3, l3, w3', e3, _, _, _, h5, h6, _⟩ := hpre j _ hj
    cases e3
    exact ⟨_, l3, ex_but (e2.trans eT) _ _ h5, fun e => by
      have := but_ex _ _ h6
      rw [e, hl2] at this
      cases this⟩
theorem ok_img {f : Addr} {fd : FuncData} (F : Fun K "image" "Disk.image" sImg f fd) (T : Txt mg K C) : FnOk P w K mg base CX0 1 f fd ["self"] (spImgs C fun d => due d.kept d.ws) := by
  refine F.ok scImg (fun vs H Q E h => ?_) (fun cdv A outer s H vs Q E hr h => ?_)
  · obtain ⟨G, p, ka, sa, wa, n, d, rfl, _⟩ := h
    rfl
  · obtain ⟨G, p, ka, sa, wa, n, d, rfl, D, q⟩ := h
    obtain ⟨dx, ho⟩ := D.o
    obtain ⟨ks, w1, w2, w3⟩ := D.s
    have hn1 := D.n1
    refine ⟨_, (pss_one (ps_ret (pe_lc (own := [("words", 1)]) (g := gName 1) (tt := tYes) rfl scImg.nd (pi_list (pe_fld (pv 0) rfl)) (blkOk_by (own := [("words", 1)]) (N := ["self", "words"]) (sc := defScope sImg) (by decide +kernel)) (fun _ _ _ _ _ => pg_name (i := 1) scImg.nd rfl (Or.inl rfl)) (fun _ _ _ _ _ => pts_nil) (fun _ _ _ _ _ => (pe_callTy (r := rListS K) call_list_of (by rfl) T.list (by decide +kernel) (pa_cons (pv 1) pa_nil)))))), ?_⟩
    refine er_ret (R := Rl H (due d.kept d.ws)) (er_L (ev_fld (ev_var rfl) ho T.cl T.ns d_s) (sq_of w1) (by rw [List.length_map]; omega) (fun _ => rfl) (rl_mon _ _) (fun i x Dd H1 hD e1 hDn hx xs hxs hpre Q' q' => ?_)) fun L ys H1 hL e1 h1 hn hr => q L ys H1 hL e1 h1 (by rw [hn, List.length_map, w2]) hr
    rw [List.getElem?_map] at hx
    obtain ⟨t, ht, rfl⟩ := Option.map_eq_some_iff.mp hx
    have gH := D.g.trans e1
    refine el_list (K := K) (ev_var rfl) (sq_of (gH _ _ (w3 i t ht))) H1 (Ex.refl _) _ fun l2 H2 hl2 e2 h2 => q' (.ref l2) H2 e2 ⟨l2, rfl, fresh_back e1 hl2, but_new hDn hl2 h2, fun l' hl' e => ?_⟩
    obtain ⟨j, hj⟩ := List.mem_iff_getElem?.mp hl'
    obtain ⟨l3, e3, _, h6, _⟩ := hpre j _ hj
    cases e3
    have := but_ex _ _ h6
    rw [e, hl2] at this
    cases this
def Rz (H0 : Hp) : Rel := fun _ _ y H => ∃ l, y = .ref l ∧ H0 l = none ∧ H l = some (.lst (Z8.map V.int))
theorem rz_mon (H0 : Hp) : Mon (Rz H0) := fun i prev y H H' e ⟨l, h1, h2, h3⟩ => ⟨l, h1, h2, e _ _ h3⟩
theorem ok_init {f fS : Addr} {fd fdS : FuncData} (F : Fun K "__init__" "Disk.__init__" sInit f fd) (FSz : Fun K "is_size" "is_size" sSize fS fdS) (GSz : FnOk P w K mg base CX0 2 fS fdS ["blocks"] spSize) (bSz : Binds K fdS ["blocks"] []) (gSz : mg "is_size" = some (.ref fS)) (T : Txt mg K C) (XN : Xc K mg "NotValid" CN) : FnOk P w K mg base (L2.CX P w) 3 f fd ["self", "blocks"] (spInit C) := by
  obtain ⟨_, gSECTOR_WORDS⟩ := T.gSECTOR_WORDS
  obtain ⟨_, gBLOCK_SECTORS⟩ := T.gBLOCK_SECTORS
  refine F.okX scInit (fun vs H Q E h => ?_) (fun cdv A outer s H vs Q E hr h => ?_)
  · obtain ⟨G, p, dx, n, rfl, _⟩ := h
    rfl
  · obtain ⟨G, p, dx, n, rfl, g0, gp, ho, h0, h1, q⟩ := h
    refine ⟨_, (pss_cons (ps_if (pt_not (pt_val (pe_call GSz (hr.mono (by decide)) (by rfl) gSz FSz.kp bSz .nil pass0 (pa_cons (pv 1) pa_nil)))) (pss_one (ps_raise0 rfl XN (takes_of rfl rfl rfl rfl) (by rfl))) pss_nil)
      (pss_cons (ps_fld (pv 0) (pv 1) rfl)
      (pss_cons (ps_fld (pv 0) (pe_lc (own := [("_", 2)]) (g := gName 2) (tt := tYes) rfl scInit.nd (pi_range1 (by rfl) T.range (pa_cons (pe_op op_mul (pe_glob (v := .int 4) rfl gBLOCK_SECTORS ⟨_, rfl⟩) (pv 1)) pa_nil)) (blkOk_by (own := [("_", 2)]) (N := ["self", "blocks", "_"]) (sc := defScope sInit) (by decide +kernel)) (fun _ _ _ _ _ => pg_name (i := 2) scInit.nd rfl (Or.inl rfl)) (fun _ _ _ _ _ => pts_nil) (fun _ _ _ _ _ => (pe_op op_rep (pe_lst (pa_cons pe_int pa_nil)) (pe_glob (v := .int 8) rfl gSECTOR_WORDS ⟨_, rfl⟩)))) rfl)
      (pss_cons (ps_fld (pv 0) (pe_callTy call_list_of (by rfl) T.list (by decide +kernel) (pa_cons (pe_fld (pv 0) rfl) pa_nil)) rfl)
      (pss_cons (ps_fld (pv 0) (pe_lst pa_nil) rfl)
      (pss_cons (ps_fld (pv 0) pe_bl rfl)
      (pss_one (ps_fld (pv 0) pe_non rfl)))))))), ?_⟩
    refine q_when (b := false) (et_is (et_not (et_B (ev_call (vs := [.int (n : Int)]) (ea_cons (ev_var rfl) ea_nil) (fun H1 e1 Q' q' E' => ⟨(n : Int), rfl, q'⟩)))) (by
      rw [decide_eq_true (by omega), decide_eq_true (by omega), decide_eq_true (by omega)]
      rfl)) (fun h => by cases h) (fun _ H1 e1 => ?_)
    refine q_fld (ev_var rfl) (ev_var rfl) (e1 _ _ ho) T.cl T.nb (by show 0 < 1000; decide) fun H2 e2 => ?_
    have aP : ∀ {H' H'' : Hp} {o : HO}, (∀ a, H a ≠ none → H' a ≠ none) → Ex H' H'' → ∀ a, H a ≠ none → (upd H'' p o) a ≠ none := fun h e a ha z => by
      by_cases ep : a = p
      · rw [ep, upd_same] at z
        cases z
      · rw [upd_ne ep] at z
        exact h a ha (fresh_back e z)
    have fP : ∀ {H' H'' : Hp} {o : HO}, (∀ a u, H a = some u → a ≠ p → H' a = some u) → Ex H' H'' → ∀ a u, H a = some u → a ≠ p → (upd H'' p o) a = some u := fun h e a u ha hn => by
      rw [upd_ne hn]
      exact e _ _ (h a u ha hn)
    have a2 := aP (o := .ins C dx (putF "blocks" (.int (n : Int)) [])) (fun a ha => ha) (e1.trans e2)
    have f2 := fP (o := .ins C dx (putF "blocks" (.int (n : Int)) [])) (fun a u ha _ => ha) (e1.trans e2)
    have g2 : Ex G (upd H2 p (.ins C dx (putF "blocks" (.int (n : Int)) []))) := ((g0.trans e1).trans e2).mut gp
    have p2 : (upd H2 p (.ins C dx (putF "blocks" (.int (n : Int)) []))) p = some (.ins C dx [(("blocks" : Str), .int (n : Int))]) := upd_same
    generalize upd H2 p (.ins C dx (putF "blocks" (.int (n : Int)) [])) = H3 at *
    refine q_fldR (n := (4 * (n : Int)).toNat) (R := Rz H3) (er_R1 (ea_cons (ev_op ev_c (ev_var rfl) (rv_I (.inl ⟨by decide, by decide⟩))) ea_nil) ⟨by omega, by omega⟩ (fun _ => rfl) (rz_mon _) (fun i Dd H4 hD e4 hDn hi xs hxs hpre Q' q' => ?_)) (ev_var rfl) p2 T.cl T.nk (by show 1 < 1000; decide) fun ka xs H4 H5 hk4 e4 e5 h5 hxl hrow => ?_
    · exact el_rep1 (el_lst (ea_cons ev_c ea_nil) (by simp)) ev_c (by decide) (by decide) H4 (Ex.refl _) _ fun l H5 hl e5 h5 => q' (.ref l) H5 e5 ⟨l, rfl, fresh_back e4 hl, but_new hDn hl h5⟩
    have hkp : ka ≠ p := fun e => by rw [e, p2] at hk4; cases hk4
    have e45 := e4.trans e5
    have a4 := aP (o := .ins C dx (putF "_kept" (.ref ka) [(("blocks" : Str), .int (n : Int))])) a2 e45
    have f4 := fP (o := .ins C dx (putF "_kept" (.ref ka) [(("blocks" : Str), .int (n : Int))])) f2 e45
    have g4 : Ex G (upd H5 p (.ins C dx (putF "_kept" (.ref ka) [(("blocks" : Str), .int (n : Int))]))) := (g2.trans e45).mut gp
    have p4 : (upd H5 p (.ins C dx (putF "_kept" (.ref ka) [(("blocks" : Str), .int (n : Int))]))) p = some (.ins C dx [(("blocks" : Str), .int (n : Int)), (("_kept" : Str), .ref ka)]) := upd_same
    have k4 : (upd H5 p (.ins C dx (putF "_kept" (.ref ka) [(("blocks" : Str), .int (n : Int))]))) ka = some (.lst xs) := by rw [upd_ne hkp]; exact h5
    have r4 : ∀ (i : Nat) (y : V), xs[i]? = some y → ∃ l, y = V.ref l ∧ H3 l = none ∧ (upd H5 p (.ins C dx (putF "_kept" (.ref ka) [(("blocks" : Str), .int (n : Int))]))) l = some (.lst (Z8.map V.int)) := fun i y hy => by
      obtain ⟨l, h1, h2, h3⟩ := hrow i y hy
      refine ⟨l, h1, h2, ?_⟩
      rw [upd_ne (fun e => by rw [e, p2] at h2; cases h2)]
      exact e5 _ _ h3
    generalize upd H5 p (.ins C dx (putF "_kept" (.ref ka) [(("blocks" : Str), .int (n : Int))])) = H6 at *
    refine q_fldL (el_list (ev_fld (ev_var rfl) p4 T.cl T.nk rfl) (sq_of k4)) (ev_var rfl) p4 T.cl T.ns (by show 2 < 1000; decide) fun sa H7 hs7 e7 h7 => ?_
    have hsp : sa ≠ p := fun e => by rw [e, p4] at hs7; cases hs7
    have hsk : ka ≠ sa := ne_of_none k4 hs7
    have a7 := aP (o := .ins C dx (putF "_shown" (.ref sa) [(("blocks" : Str), .int (n : Int)), (("_kept" : Str), .ref ka)])) a4 e7
    have f7 := fP (o := .ins C dx (putF "_shown" (.ref sa) [(("blocks" : Str), .int (n : Int)), (("_kept" : Str), .ref ka)])) f4 e7
    have g7 : Ex G (upd H7 p (.ins C dx (putF "_shown" (.ref sa) [(("blocks" : Str), .int (n : Int)), (("_kept" : Str), .ref ka)]))) := (g4.trans e7).mut gp
    have p7 : (upd H7 p (.ins C dx (putF "_shown" (.ref sa) [(("blocks" : Str), .int (n : Int)), (("_kept" : Str), .ref ka)]))) p = some (.ins C dx [(("blocks" : Str), .int (n : Int)), (("_kept" : Str), .ref ka), (("_shown" : Str), .ref sa)]) := upd_same
    have x7 : ∀ a o, H6 a = some o → a ≠ p → (upd H7 p (.ins C dx (putF "_shown" (.ref sa) [(("blocks" : Str), .int (n : Int)), (("_kept" : Str), .ref ka)]))) a = some o := fun a o h hn => by rw [upd_ne hn]; exact e7 _ _ h
    have s7 : (upd H7 p (.ins C dx (putF "_shown" (.ref sa) [(("blocks" : Str), .int (n : Int)), (("_kept" : Str), .ref ka)]))) sa = some (.lst xs) := by rw [upd_ne hsp]; exact h7
    generalize upd H7 p (.ins C dx (putF "_shown" (.ref sa) [(("blocks" : Str), .int (n : Int)), (("_kept" : Str), .ref ka)])) = H8 at *
    refine q_fldL (el_lst ea_nil (by simp)) (ev_var rfl) p7 T.cl T.nw (by show 3 < 1000; decide) fun wa H9 hw9 e9 h9 => ?_
    have hwp : wa ≠ p := fun e => by rw [e, p7] at hw9; cases hw9
    have hws : sa ≠ wa := ne_of_none s7 hw9
    have hwk : ka ≠ wa := ne_of_none (x7 _ _ k4 hkp) hw9
    have a9 := aP (o := .ins C dx (putF "_writes" (.ref wa) [(("blocks" : Str), .int (n : Int)), (("_kept" : Str), .ref ka), (("_shown" : Str), .ref sa)])) a7 e9
    have f9 := fP (o := .ins C dx (putF "_writes" (.ref wa) [(("blocks" : Str), .int (n : Int)), (("_kept" : Str), .ref ka), (("_shown" : Str), .ref sa)])) f7 e9
    have g9 : Ex G (upd H9 p (.ins C dx (putF "_writes" (.ref wa) [(("blocks" : Str), .int (n : Int)), (("_kept" : Str), .ref ka), (("_shown" : Str), .ref sa)]))) := (g7.trans e9).mut gp
    have p9 : (upd H9 p (.ins C dx (putF "_writes" (.ref wa) [(("blocks" : Str), .int (n : Int)), (("_kept" : Str), .ref ka), (("_shown" : Str), .ref sa)]))) p = some (.ins C dx [(("blocks" : Str), .int (n : Int)), (("_kept" : Str), .ref ka), (("_shown" : Str), .ref sa), (("_writes" : Str), .ref wa)]) := upd_same
    have x9 : ∀ a o, H8 a = some o → a ≠ p → (upd H9 p (.ins C dx (putF "_writes" (.ref wa) [(("blocks" : Str), .int (n : Int)), (("_kept" : Str), .ref ka), (("_shown" : Str), .ref sa)]))) a = some o := fun a o h hn => by rw [upd_ne hn]; exact e9 _ _ h
    have w9 : (upd H9 p (.ins C dx (putF "_writes" (.ref wa) [(("blocks" : Str), .int (n : Int)), (("_kept" : Str), .ref ka), (("_shown" : Str), .ref sa)]))) wa = some (.lst []) := by rw [upd_ne hwp]; exact h9
    generalize upd H9 p (.ins C dx (putF "_writes" (.ref wa) [(("blocks" : Str), .int (n : Int)), (("_kept" : Str), .ref ka), (("_shown" : Str), .ref sa)])) = H10 at *
    refine q_fld ev_c (ev_var rfl) p9 T.cl T.np (by show 4 < 1000; decide) fun H11 e11 => ?_
    refine s_fld ev_c (ev_var rfl) upd_same T.cl T.nf (by show 5 < 1000; decide) fun H12 e12 => ?_
    show Q .non (upd H12 p (.ins C dx (dfl n ka sa wa true none)))
    have x12 : ∀ a o, H10 a = some o → a ≠ p → (upd H12 p (.ins C dx (dfl n ka sa wa true none))) a = some o := fun a o h hn => by
      rw [upd_ne hn]
      exact e12 _ _ (by rw [upd_ne hn]; exact e11 _ _ h)
    have a12 := aP (o := .ins C dx (dfl n ka sa wa true none)) (aP (o := .ins C dx (putF "_powered" (V.bl true) [(("blocks" : Str), .int (n : Int)), (("_kept" : Str), .ref ka), (("_shown" : Str), .ref sa), (("_writes" : Str), .ref wa)])) a9 e11) e12
    have g12 : Ex G (upd H12 p (.ins C dx (dfl n ka sa wa true none))) := (((g9.trans e11).mut gp).trans e12).mut gp
    have p12 : (upd H12 p (.ins C dx (dfl n ka sa wa true none))) p = some (.ins C dx (dfl n ka sa wa true none)) := upd_same
    generalize upd H12 p (.ins C dx (dfl n ka sa wa true none)) = HX at *
    have k0 : H ka = none := Classical.byContradiction fun h => a2 ka h hk4
    have s0 : H sa = none := Classical.byContradiction fun h => a4 sa h hs7
    have w0 : H wa = none := Classical.byContradiction fun h => a7 wa h hw9
    have toX : ∀ a o, H6 a = some o → a ≠ p → HX a = some o := fun a o h hn => x12 _ _ (x9 _ _ (x7 _ _ h hn) hn) hn
    obtain ⟨ks, hks⟩ : ∃ ks : List Addr, xs = ks.map V.ref := by
      refine refs_of fun y hy => ?_
      obtain ⟨i, hi⟩ := List.mem_iff_getElem?.mp hy
      obtain ⟨l, h, _⟩ := r4 i y hi
      exact ⟨l, h⟩
    have hkl : ks.length = 4 * n := by
      have := hxl
      rw [hks, List.length_map] at this
      omega
    have row : ∀ (j : Nat) (a : Addr), ks[j]? = some a → grow G H HX (fun a => a = ka ∨ a = sa ∨ a = wa) a = some (.lst (Z8.map V.int)) := fun j a ha => by
      obtain ⟨l, e, hl3, hl6⟩ := r4 j (.ref a) (by rw [hks, List.getElem?_map, ha]; rfl)
      cases e
      have hap : a ≠ p := fun e => by rw [e, p2] at hl3; cases hl3
      have ha0 : H a = none := Classical.byContradiction fun h => a2 a h hl3
      refine grow_new (fresh_back g0 ha0) ha0 ?_ (toX a _ hl6 hap)
      rintro (e | e | e)
      · rw [e, k4, hks] at hl6
        cases ks with
        | nil => simp at ha
        | cons c r => simp [Z8] at hl6
      · rw [e, hs7] at hl6
        cases hl6
      · rw [e] at hl6
        have := x7 _ _ hl6 hwp
        rw [hw9] at this
        cases this
    have ap : H p ≠ none := by rw [ho]; exact fun z => by cases z
    refine q (grow G H HX fun a => a = ka ∨ a = sa ∨ a = wa) ka sa wa HX ⟨grow_ex, fun a h g => grow_no h g, a12⟩ (fun a o h hp => x12 _ _ (f9 a o h hp) hp)
      ⟨grow_sub g12, grow_no ap gp, grow_X (.inl rfl) (fresh_back g0 k0), grow_X (.inr (.inl rfl)) (fresh_back g0 s0), grow_X (.inr (.inr rfl)) (fresh_back g0 w0), hsk, hwk, hws, ⟨dx, p12⟩, ⟨ks, by rw [← hks]; exact toX _ _ k4 hkp, hkl, row⟩, ⟨ks, by rw [← hks]; exact x12 _ _ (x9 _ _ s7 hsp) hsp, hkl, row⟩, ⟨[], x12 _ _ w9 hwp, rfl, fun i t w' ht => by simp at ht⟩, h0, h1, Nat.zero_le _, fun w' hw' => absurd hw' List.not_mem_nil, fun _ => rfl⟩
end

end K23D

set_option Elab.async false
set_option linter.all false
set_option maxRecDepth 100000
set_option maxHeartbeats 4000000
namespace K23S
open PySem PySem.Spec PyProof.Rows L2 Evl LK LT LG LS LQ LX LO
def top (i : Nat) : Stmt := PySem.Challenge.pw_laminae_k23_store.main.body.getD i (.Pass ⟨0, 0, 0, 0⟩)
abbrev sIw : Stmt := top 7
theorem scIw : FnScope ["value"] ["value"] (defScope sIw) := ⟨rfl, rfl, rfl, by decide +kernel, rfl, by decide +kernel, by decide +kernel⟩
abbrev sInit : Stmt := inClass (top 24) 0
theorem scInit : FnScope ["self", "uses", "count"] ["self", "uses"] (defScope sInit) := ⟨rfl, rfl, rfl, by decide +kernel, rfl, by decide +kernel, by decide +kernel⟩
abbrev sTake : Stmt := inClass (top 24) 1
theorem scTake : FnScope ["self", "reserve", "block"] ["self", "reserve"] (defScope sTake) := ⟨rfl, rfl, rfl, by decide +kernel, rfl, by decide +kernel, by decide +kernel⟩
abbrev sLeast : Stmt := inClass (top 24) 2
theorem scLeast : FnScope ["self", "block"] ["self"] (defScope sLeast) := ⟨rfl, rfl, rfl, by decide +kernel, rfl, by decide +kernel, by decide +kernel⟩
abbrev sShare : Stmt := inClass (top 24) 3
theorem scShare : FnScope ["self", "block"] ["self", "block"] (defScope sShare) := ⟨rfl, rfl, rfl, by decide +kernel, rfl, by decide +kernel, by decide +kernel⟩
abbrev sDrop : Stmt := inClass (top 24) 4
theorem scDrop : FnScope ["self", "block"] ["self", "block"] (defScope sDrop) := ⟨rfl, rfl, rfl, by decide +kernel, rfl, by decide +kernel, by decide +kernel⟩
abbrev sUses : Stmt := inClass (top 24) 5
theorem scUses : FnScope ["self", "block"] ["self", "block"] (defScope sUses) := ⟨rfl, rfl, rfl, by decide +kernel, rfl, by decide +kernel, by decide +kernel⟩
abbrev sNew : Stmt := inClass (top 24) 7
theorem scNew : FnScope ["self", "block"] ["self", "block"] (defScope sNew) := ⟨rfl, rfl, rfl, by decide +kernel, rfl, by decide +kernel, by decide +kernel⟩
abbrev sFree : Stmt := inClass (top 24) 8
theorem scFree : FnScope ["self", "block"] ["self", "block"] (defScope sFree) := ⟨rfl, rfl, rfl, by decide +kernel, rfl, by decide +kernel, by decide +kernel⟩
abbrev sFr : Stmt := inClass (top 24) 9
theorem scFr : FnScope ["self"] ["self"] (defScope sFr) := ⟨rfl, rfl, rfl, by decide +kernel, rfl, by decide +kernel, by decide +kernel⟩
abbrev sCu : Stmt := inClass (top 24) 14
theorem scCu : FnScope ["self", "held", "count", "now_held"] ["self", "held"] (defScope sCu) := ⟨rfl, rfl, rfl, by decide +kernel, rfl, by decide +kernel, by decide +kernel⟩
abbrev sCe : Stmt := inClass (top 24) 15
theorem scCe : FnScope ["self", "block"] ["self", "block"] (defScope sCe) := ⟨rfl, rfl, rfl, by decide +kernel, rfl, by decide +kernel, by decide +kernel⟩
abbrev sCk : Stmt := inClass (top 24) 16
theorem scCk : FnScope ["self", "block"] ["self", "block"] (defScope sCk) := ⟨rfl, rfl, rfl, by decide +kernel, rfl, by decide +kernel, by decide +kernel⟩
structure Txt (mg : Str → Option Value) (K : PySem.W.Frag) (C : Addr) : Prop where
  len : mg "len" = none
  range : mg "range" = none
  list : mg "list" = none
  isinstance : mg "isinstance" = none
  zip : mg "zip" = none
  int : mg "int" = none
  bool : mg "bool" = none
  gFIRST_BLOCK : ∃ t, mg "FIRST_BLOCK" = some (.int 5 t)
  cl : Cls K C
  nB : NoAttr K C "blocks"
  nC : NoAttr K C "_counts"
  nH : NoAttr K C "_held"
  mgC : mg "Space" = some (.ref C)
/-! ### a space: its fields, its lists -/
def flds (n : Int) (cl hl : Addr) : List (Str × V) := [(("blocks" : Str), .int n), (("_counts" : Str), .ref cl), (("_held" : Str), .ref hl)]
theorem fl_b (n : Int) (cl hl : Addr) : (flds n cl hl).lookup ("blocks" : Str) = some (V.int n) := rfl
theorem fl_c (n : Int) (cl hl : Addr) : (flds n cl hl).lookup ("_counts" : Str) = some (V.ref cl) := rfl
theorem fl_h (n : Int) (cl hl : Addr) : (flds n cl hl).lookup ("_held" : Str) = some (V.ref hl) := rfl
theorem fl_pc (n : Int) (cl hl cl' : Addr) : putF "_counts" (V.ref cl') (flds n cl hl) = flds n cl' hl := rfl
theorem fl_ph (n : Int) (cl hl hl' : Addr) : putF "_held" (V.ref hl') (flds n cl hl) = flds n cl hl' := rfl
theorem fl_0 (n : Int) : putF "blocks" (V.int n) [] = [(("blocks" : Str), V.int n)] := rfl
theorem fl_1 (n : Int) (cl : Addr) : putF "_counts" (V.ref cl) [(("blocks" : Str), V.int n)] = [(("blocks" : Str), V.int n), (("_counts" : Str), V.ref cl)] := rfl
theorem fl_2 (n : Int) (cl hl : Addr) : putF "_held" (V.ref hl) [(("blocks" : Str), V.int n), (("_counts" : Str), V.ref cl)] = flds n cl hl := rfl
theorem fl_no (n : Int) (cl hl : Addr) {m : Str} (h : m ≠ "blocks" ∧ m ≠ "_counts" ∧ m ≠ "_held") : (flds n cl hl).lookup m = Option.none := by
  unfold flds
  rw [List.lookup_cons, beq_false_of_ne h.1, List.lookup_cons, beq_false_of_ne h.2.1, List.lookup_cons, beq_false_of_ne h.2.2]
  rfl
structure Sp' (C : Addr) (H : Hp) (p cl hl : Addr) (cs : List Int) (hs : List Bool) : Prop where
  len : cs.length = hs.length
  le : cs.length ≤ 256
  o : ∃ dx, H p = some (.ins C dx (flds cs.length cl hl))
  c : H cl = some (.lst (cs.map V.int))
  h : H hl = some (.lst (hs.map V.bl))
theorem Sp'.ex {C : Addr} {H H' : Hp} {p cl hl : Addr} {cs : List Int} {hs : List Bool} (s : Sp' C H p cl hl cs hs) (e : Ex H H') : Sp' C H' p cl hl cs hs := ⟨s.len, s.le, let ⟨dx, h⟩ := s.o; ⟨dx, e _ _ h⟩, e _ _ s.c, e _ _ s.h⟩
def cv (cs : List Int) (k : Nat) : Int := cs.getD k 0
def hv (hs : List Bool) (k : Nat) : Bool := hs.getD k false
theorem cv_at {cs : List Int} {k : Nat} (hk : k < cs.length) : (cs.map V.int)[k]? = some (.int (cv cs k)) := cellv_in hk
theorem hv_at {hs : List Bool} {k : Nat} (hk : k < hs.length) : (hs.map V.bl)[k]? = some (.bl (hv hs k)) := by
  rw [List.getElem?_map, List.getElem?_eq_getElem hk]
  unfold hv
  rw [List.getD_eq_getElem?_getD, List.getElem?_eq_getElem hk]
  rfl
/-- is block k free | which are -/
def fr1 (cs : List Int) (hs : List Bool) (b : Bool) (k : Nat) : Bool := decide (V.int (cv cs k) = V.int 0) && decide (V.bl (hv hs k) = V.bl b)
def fr (cs : List Int) (hs : List Bool) (b : Bool) : List Nat := (List.range cs.length).filter (fr1 cs hs b)
theorem fr_lt {cs : List Int} {hs : List Bool} {b : Bool} {k : Nat} (h : k ∈ fr cs hs b) : k < cs.length := List.mem_range.mp (List.mem_filter.mp h).1
theorem fr_len (cs : List Int) (hs : List Bool) (b : Bool) : (fr cs hs b).length ≤ cs.length := by
  have := List.length_filter_le (fr1 cs hs b) (List.range cs.length)
  rw [List.length_range] at this
  exact this
def headV (l : List Nat) : V := match l with
  | [] => .non
  | k :: _ => .int (k : Int)
theorem head_some {cs : List Int} {hs : List Bool} {b : Bool} {i : Nat} (hi : i < cs.length) (h : fr1 cs hs b i = true) (hn : ∀ j, j < i → fr1 cs hs b j = false) : headV (fr cs hs b) = .int (i : Int) := by
  have e : (fr cs hs b).head? = some i := by
    unfold fr
    rw [List.head?_filter, List.find?_range_eq_some]
    exact ⟨h, List.mem_range.mpr hi, fun j hj => by rw [hn j hj]; rfl⟩
  cases hf : fr cs hs b with
  | nil => rw [hf] at e; cases e
  | cons x r => rw [hf] at e; cases e; rfl
theorem head_none {cs : List Int} {hs : List Bool} {b : Bool} (hn : ∀ j, j < cs.length → fr1 cs hs b j = false) : headV (fr cs hs b) = .non := by
  have e : fr cs hs b = [] := List.filter_eq_nil_iff.mpr fun j hj => by rw [hn j (List.mem_range.mp hj)]; decide
  rw [e]
  rfl
theorem head_of {cs : List Int} {hs : List Bool} {b : Bool} (h : 0 < (fr cs hs b).length) : ∃ k, headV (fr cs hs b) = .int ((k : Nat) : Int) ∧ k < cs.length ∧ (fr cs hs b)[0]? = some k := by
  cases hf : fr cs hs b with
  | nil => rw [hf] at h; cases h
  | cons x r =>
    have : x ∈ fr cs hs b := by rw [hf]; exact List.mem_cons_self
    exact ⟨x, rfl, fr_lt this, rfl⟩
end K23S

set_option Elab.async false
set_option linter.all false
set_option maxRecDepth 100000
set_option maxHeartbeats 4000000
namespace K23S
open PySem PySem.Spec PyProof.Rows L2 Evl LK LT LG LS LQ LX LO
/-! ### the methods' promises -/
def spIw : Sp := fun vs H Q _ => ∃ z : Int, vs = [.int z] ∧ RetV (.bl (decide (0 ≤ z))) H Q
def In (cs : List Int) (z : Int) : Prop := 0 ≤ z ∧ z < cs.length
/-- asked at a block: a value where the block exists, else NotValid -/
def spAt (C N : Addr) (ok : List Int → Int → Prop) (f : List Int → List Bool → Nat → V) : Sp := fun vs H Q E => ∃ p cl hl cs hs z, vs = [.ref p, .int z] ∧ Sp' C H p cl hl cs hs ∧ (∀ k : Nat, z = (k : Int) → k < cs.length → ok cs z → RetV (f cs hs k) H Q) ∧ (¬ (In cs z ∧ ok cs z) → ∀ H', Ex H H' → E (.ref N) none H')
def always : List Int → Int → Prop := fun _ _ => True
def used : List Int → Int → Prop := fun cs z => 5 ≤ z ∧ cv cs z.toNat ≠ 0
section
variable {P : Program} {w : World} {K : PySem.W.Frag} {mg : Str → Option Value} {base : Heap} {C CN CS : Addr}
theorem nat_of {cs : List Int} {z : Int} (h : In cs z) : ∃ k : Nat, z = (k : Int) ∧ k < cs.length := ⟨z.toNat, by have := h.1; omega, by have := h.1; have := h.2; omega⟩
theorem ok_iw {f : Addr} {fd : FuncData} (F : Fun K "is_word" "is_word" sIw f fd) (T : Txt mg K C) : FnOk P w K mg base CX0 1 f fd ["value"] spIw := by
  refine F.ok scIw (fun vs H Q E h => ?_) (fun cdv A outer s H vs Q E hr h => ?_)
  · obtain ⟨z, rfl, _⟩ := h
    rfl
  · obtain ⟨z, rfl, q⟩ := h
    refine ⟨_, (pss_one (ps_ret (pe_and (pe_callB call_isi (by rfl) T.isinstance (by decide +kernel) (pa_cons (pv 0) (pa_cons (pe_bltn (v := .ty "int") (u := .type "int") (by rfl) T.int (by decide +kernel) rfl) pa_nil))) (pe_and (pe_not (pe_callB call_isi (by rfl) T.isinstance (by decide +kernel) (pa_cons (pv 0) (pa_cons (pe_bltn (v := .ty "bool") (u := .type "bool") (by rfl) T.bool (by decide +kernel) rfl) pa_nil)))) (pe_one (pe_cmpR op_ge (pv 0) pe_int (nomark _))))))), ?_⟩
    exact s_ret (ev_is (ev_andV (ev_isi (b := true) (ev_var rfl) ev_c (fun _ _ => .base (.int _)) (kit_ty rfl)) (fun _ => ev_andV (ev_notV (ev_isi (b := false) (ev_var rfl) ev_c (fun _ _ => .base (.int _)) (kit_ty rfl))) (fun _ => ev_op (ev_var rfl) ev_c rv_I0))) (by simp)) fun H1 e1 => q H1 e1
theorem ok_ce {f fW : Addr} {fd fdW : FuncData} (F : Fun K "_check_exists" "Space._check_exists" sCe f fd) (FW : Fun K "is_word" "is_word" sIw fW fdW) (bW : Binds K fdW ["value"] []) (gW : mg "is_word" = some (.ref fW)) (T : Txt mg K C) (XN : Xc K mg "NotValid" CN) : FnOk P w K mg base (L2.CX P w) 2 f fd ["self", "block"] (spAt C CN always fun _ _ _ => .non) := by
  have GW : FnOk P w K mg base CX0 1 fW fdW ["value"] spIw := ok_iw FW T
  refine F.okX scCe (fun vs H Q E h => ?_) (fun cdv A outer s H vs Q E hr h => ?_)
  · obtain ⟨p, cl, hl, cs, hs, z, rfl, _⟩ := h
    rfl
  · obtain ⟨p, cl, hl, cs, hs, z, rfl, S, q, qE⟩ := h
    obtain ⟨dx, ho⟩ := S.o
    refine ⟨_, (pss_one (ps_if (PW.pt (pw_or (pt_not (pt_val (pe_call GW (hr.mono (by decide)) (by rfl) gW FW.kp bW .nil pass0 (pa_cons (pv 1) pa_nil)))) (pw_or1 (pt_cmpR op_ge (pv 1) (pe_fld (pv 0) rfl) (nomark _))))) (pss_one (ps_raise0 rfl XN (takes_of rfl rfl rfl rfl) (by rfl))) pss_nil)), ?_⟩
    refine s_when (et_or (et_not (et_B (ev_call (vs := [.int z]) (ea_cons (ev_var rfl) ea_nil) (fun H1 e1 Q' q' E' => ⟨z, rfl, q'⟩)))) (fun _ => et_test (ev_op (ev_var rfl) (ev_fld (ev_var rfl) ho T.cl T.nB (fl_b _ _ _)) rv_I0))) (fun hb H1 e1 => ?_) (fun hb H1 e1 => ?_)
    · refine qE (fun h => ?_) H1 e1
      obtain ⟨h0, h1⟩ := h.1
      simp at hb
      omega
    · simp at hb
      obtain ⟨k, hk, hlt⟩ := nat_of (cs := cs) (z := z) ⟨by omega, by omega⟩
      exact q k hk hlt True.intro H1 e1
theorem ok_ck {f fC : Addr} {fd fdC : FuncData} (F : Fun K "_check_used" "Space._check_used" sCk f fd) (Gcheck_exists : FnOk P w K mg base (L2.CX P w) 2 fC fdC ["self", "block"] (spAt C CN always fun _ _ _ => .non)) (bcheck_exists : Binds K fdC ["self", "block"] []) (mcheck_exists : Meth K C "_check_exists" fC) (T : Txt mg K C) (XN : Xc K mg "NotValid" CN) : FnOk P w K mg base (L2.CX P w) 3 f fd ["self", "block"] (spAt C CN used fun _ _ _ => .non) := by
  obtain ⟨_, gFIRST_BLOCK⟩ := T.gFIRST_BLOCK
  refine F.okX scCk (fun vs H Q E h => ?_) (fun cdv A outer s H vs Q E hr h => ?_)
  · obtain ⟨p, cl, hl, cs, hs, z, rfl, _⟩ := h
    rfl
  · obtain ⟨p, cl, hl, cs, hs, z, rfl, S, q, qE⟩ := h
    obtain ⟨dx, ho⟩ := S.o
    refine ⟨_, (pss_cons (ps_expr (pe_meth (pv 0) T.cl mcheck_exists Gcheck_exists (hr.mono (by decide)) bcheck_exists .nil (pass_own (takes_of rfl rfl rfl rfl)) (pa_cons (pv 1) pa_nil)))
      (pss_one (ps_if (PW.pt (pw_or (pt_cmpR op_lt (pv 1) (pe_glob (v := .int 5) rfl gFIRST_BLOCK ⟨_, rfl⟩) (nomark _)) (pw_or1 (pt_cmpR op_eq (pe_ix ix_list (pe_fld (pv 0) rfl) (pv 1) (fun _ _ => rfl)) pe_int (nomark _))))) (pss_one (ps_raise0 rfl XN (takes_of rfl rfl rfl rfl) (by rfl))) pss_nil))), ?_⟩
    refine q_m (ev_var rfl) ho (fl_no _ _ _ ⟨by decide +kernel, by decide +kernel, by decide +kernel⟩) (ea_cons (ev_var rfl) ea_nil) fun H1 e1 => ⟨p, cl, hl, cs, hs, z, rfl, S.ex e1, fun k hk hlt _ H2 e2 => ?_, fun hn H2 e2 => qE (fun h => hn ⟨h.1, True.intro⟩) H2 (e1.trans e2)⟩
    subst hk
    have S2 := S.ex (e1.trans e2)
    obtain ⟨dx2, ho2⟩ := S2.o
    refine s_when (et_or (et_test (ev_op (ev_var rfl) ev_c rv_I0)) (fun _ => et_test (ev_op (ev_op (ev_fld (ev_var rfl) ho2 T.cl T.nC (fl_c _ _ _)) (ev_var rfl) (rv_ixL (sq_of S2.c) (atI_nat (cv_at hlt)))) ev_c (rv_eq rfl)))) (fun hb H3 e3 => ?_) (fun hb H3 e3 => ?_)
    · refine qE (fun h => ?_) H3 ((e1.trans e2).trans e3)
      obtain ⟨h0, h5, h6⟩ := h
      rw [Int.toNat_natCast] at h6
      simp at hb
      rcases hb with hb | hb
      · omega
      · exact h6 hb
    · simp at hb
      exact q k rfl hlt ⟨by omega, by rw [Int.toNat_natCast]; exact hb.2⟩ H3 ((e1.trans e2).trans e3)
theorem ok_uses {f fC : Addr} {fd fdC : FuncData} (F : Fun K "uses" "Space.uses" sUses f fd) (Gcheck_exists : FnOk P w K mg base (L2.CX P w) 2 fC fdC ["self", "block"] (spAt C CN always fun _ _ _ => .non)) (bcheck_exists : Binds K fdC ["self", "block"] []) (mcheck_exists : Meth K C "_check_exists" fC) (T : Txt mg K C) : FnOk P w K mg base (L2.CX P w) 3 f fd ["self", "block"] (spAt C CN always fun cs _ k => .int (cv cs k)) := by
  refine F.okX scUses (fun vs H Q E h => ?_) (fun cdv A outer s H vs Q E hr h => ?_)
  · obtain ⟨p, cl, hl, cs, hs, z, rfl, _⟩ := h
    rfl
  · obtain ⟨p, cl, hl, cs, hs, z, rfl, S, q, qE⟩ := h
    obtain ⟨dx, ho⟩ := S.o
    refine ⟨_, (pss_cons (ps_expr (pe_meth (pv 0) T.cl mcheck_exists Gcheck_exists (hr.mono (by decide)) bcheck_exists .nil (pass_own (takes_of rfl rfl rfl rfl)) (pa_cons (pv 1) pa_nil)))
      (pss_one (ps_ret (pe_ix ix_list (pe_fld (pv 0) rfl) (pv 1) (fun _ _ => rfl))))), ?_⟩
    refine q_m (ev_var rfl) ho (fl_no _ _ _ ⟨by decide +kernel, by decide +kernel, by decide +kernel⟩) (ea_cons (ev_var rfl) ea_nil) fun H1 e1 => ⟨p, cl, hl, cs, hs, z, rfl, S.ex e1, fun k hk hlt _ H2 e2 => ?_, fun hn H2 e2 => qE hn H2 (e1.trans e2)⟩
    subst hk
    have S2 := S.ex (e1.trans e2)
    obtain ⟨dx2, ho2⟩ := S2.o
    exact s_ret (ev_op (ev_fld (ev_var rfl) ho2 T.cl T.nC (fl_c _ _ _)) (ev_var rfl) (rv_ixL (sq_of S2.c) (atI_nat (cv_at hlt)))) fun H3 e3 => q k rfl hlt True.intro H3 ((e1.trans e2).trans e3)
theorem sv_uses {H : Hp} {p cl hl : Addr} {cs : List Int} {hs : List Bool} {k : Nat} {f : List Int → List Bool → Nat → V} (S : Sp' C H p cl hl cs hs) (hk : k < cs.length) : SpV (spAt C CN always f) [.ref p, .int (k : Int)] H (f cs hs k) := fun H1 e1 Q q E =>
  ⟨p, cl, hl, cs, hs, k, rfl, S.ex e1, fun k' hk' _ _ H2 e2 => by
    have : k = k' := by omega
    subst this
    exact q H2 e2, fun hn => absurd ⟨⟨by omega, by omega⟩, True.intro⟩ hn⟩
theorem ok_isnew {f fC : Addr} {fd fdC : FuncData} (F : Fun K "is_new" "Space.is_new" sNew f fd) (Guses : FnOk P w K mg base (L2.CX P w) 3 fC fdC ["self", "block"] (spAt C CN always fun cs _ k => .int (cv cs k))) (buses : Binds K fdC ["self", "block"] []) (muses : Meth K C "uses" fC) (T : Txt mg K C) : FnOk P w K mg base (L2.CX P w) 4 f fd ["self", "block"] (spAt C CN always fun cs hs k => .bl (decide (cv cs k > 0) && !hv hs k)) := by
  refine F.okX scNew (fun vs H Q E h => ?_) (fun cdv A outer s H vs Q E hr h => ?_)
  · obtain ⟨p, cl, hl, cs, hs, z, rfl, _⟩ := h
    rfl
  · obtain ⟨p, cl, hl, cs, hs, z, rfl, S, q, qE⟩ := h
    obtain ⟨dx, ho⟩ := S.o
    refine ⟨_, (pss_one (ps_ret (pe_and (pe_cmpR op_gt (pe_meth (pv 0) T.cl muses Guses (hr.mono (by decide)) buses .nil (pass_own (takes_of rfl rfl rfl rfl)) (pa_cons (pv 1) pa_nil)) pe_int (nomark _)) (pe_one (pe_not (pe_ix ix_list (pe_fld (pv 0) rfl) (pv 1) (fun _ _ => rfl))))))), ?_⟩
    by_cases hz : In cs z
    · obtain ⟨k, rfl, hlt⟩ := nat_of hz
      exact s_ret (ev_andV (ev_op (ev_meth (ev_var rfl) ho (fl_no _ _ _ ⟨by decide +kernel, by decide +kernel, by decide +kernel⟩) (ea_cons (ev_var rfl) ea_nil) (sv_uses (CN := CN) (f := fun cs _ k => .int (cv cs k)) S hlt)) ev_c rv_I0) (fun _ => ev_notV (ev_op (ev_fld (ev_var rfl) ho T.cl T.nH (fl_h _ _ _)) (ev_var rfl) (rv_ixL (sq_of S.h) (atI_nat (hv_at (by rw [← S.len]; exact hlt))))))) fun H1 e1 => q k rfl hlt True.intro H1 e1
    · refine ⟨.ref p, rfl, p, dx, _, rfl, ho, fl_no _ _ _ ⟨by decide +kernel, by decide +kernel, by decide +kernel⟩, .int z, rfl, p, cl, hl, cs, hs, z, rfl, S, fun k hk hlt => absurd ⟨by omega, by omega⟩ hz, fun hn H2 e2 => qE hn H2 e2⟩
theorem ok_isfree {f fC : Addr} {fd fdC : FuncData} (F : Fun K "is_free" "Space.is_free" sFree f fd) (Guses : FnOk P w K mg base (L2.CX P w) 3 fC fdC ["self", "block"] (spAt C CN always fun cs _ k => .int (cv cs k))) (buses : Binds K fdC ["self", "block"] []) (muses : Meth K C "uses" fC) (T : Txt mg K C) : FnOk P w K mg base (L2.CX P w) 4 f fd ["self", "block"] (spAt C CN always fun cs hs k => .bl (decide (V.int (cv cs k) = V.int 0) && !hv hs k)) := by
  refine F.okX scFree (fun vs H Q E h => ?_) (fun cdv A outer s H vs Q E hr h => ?_)
  · obtain ⟨p, cl, hl, cs, hs, z, rfl, _⟩ := h
    rfl
  · obtain ⟨p, cl, hl, cs, hs, z, rfl, S, q, qE⟩ := h
    obtain ⟨dx, ho⟩ := S.o
    refine ⟨_, (pss_one (ps_ret (pe_and (pe_cmpR op_eq (pe_meth (pv 0) T.cl muses Guses (hr.mono (by decide)) buses .nil (pass_own (takes_of rfl rfl rfl rfl)) (pa_cons (pv 1) pa_nil)) pe_int (nomark _)) (pe_one (pe_not (pe_ix ix_list (pe_fld (pv 0) rfl) (pv 1) (fun _ _ => rfl))))))), ?_⟩
    by_cases hz : In cs z
    · obtain ⟨k, rfl, hlt⟩ := nat_of hz
      exact s_ret (ev_andV (ev_op (ev_meth (ev_var rfl) ho (fl_no _ _ _ ⟨by decide +kernel, by decide +kernel, by decide +kernel⟩) (ea_cons (ev_var rfl) ea_nil) (sv_uses (CN := CN) (f := fun cs _ k => .int (cv cs k)) S hlt)) ev_c (rv_eq rfl)) (fun _ => ev_notV (ev_op (ev_fld (ev_var rfl) ho T.cl T.nH (fl_h _ _ _)) (ev_var rfl) (rv_ixL (sq_of S.h) (atI_nat (hv_at (by rw [← S.len]; exact hlt))))))) fun H1 e1 => q k rfl hlt True.intro H1 e1
    · refine ⟨.ref p, rfl, p, dx, _, rfl, ho, fl_no _ _ _ ⟨by decide +kernel, by decide +kernel, by decide +kernel⟩, .int z, rfl, p, cl, hl, cs, hs, z, rfl, S, fun k hk hlt => absurd ⟨by omega, by omega⟩ hz, fun hn H2 e2 => qE hn H2 e2⟩
end
end K23S

set_option Elab.async false
set_option linter.all false
set_option maxRecDepth 100000
set_option maxHeartbeats 4000000
namespace K23S
open PySem PySem.Spec PyProof.Rows L2 Evl LK LT LG LS LQ LX LO
theorem given_length (n : Nat) (f : Nat → Bool) (v : Nat → V) : (given n f v).length = ((List.range n).filter f).length := by
  unfold given
  rw [List.length_map]
theorem given_map (n : Nat) (v : Nat → V) : given n (fun _ => true) v = (List.range n).map v := by
  unfold given
  rw [List.filter_eq_self.mpr fun _ _ => rfl]
def pos (cs : List Int) : List Bool := cs.map fun c => decide (c > 0)
theorem pos_map (cs : List Int) : given (cs.map V.int).length (fun _ => true) (fun i => .bl (decide (cv cs i > 0))) = (pos cs).map V.bl := by
  rw [given_map, List.length_map]
  unfold pos
  rw [List.map_map]
  apply List.ext_getElem
  · simp
  · intro i h1 h2
    simp only [List.length_map, List.length_range] at h1
    simp [cv, List.getD_eq_getElem?_getD, List.getElem?_eq_getElem h1]
theorem not_dec (b : Bool) : (!b) = decide (V.bl b = V.bl false) := by
  cases b
  · rw [decide_eq_true rfl]; rfl
  · rw [decide_eq_false (by intro h; cases h)]; rfl
theorem map_set (cs : List Int) (k : Nat) (x : Int) : (cs.map V.int).set k (.int x) = (cs.set k x).map V.int := (List.map_set).symm
def spCu (C : Addr) (b? : Bool → Prop) : Sp := fun vs H Q _ => ∃ p cl hl cs hs b, vs = [.ref p, .bl b] ∧ Sp' C H p cl hl cs hs ∧ RetV (.int ((fr cs hs b).length : Nat)) H Q
def spSelf (C : Addr) (f : List Int → List Bool → V) : Sp := fun vs H Q _ => ∃ p cl hl cs hs, vs = [.ref p] ∧ Sp' C H p cl hl cs hs ∧ RetV (f cs hs) H Q
def spTake (C N : Addr) : Sp := fun vs H Q E => ∃ p cl hl cs hs r, vs = [.ref p, .int r] ∧ Sp' C H p cl hl cs hs ∧ 0 ≤ r ∧ (((fr cs hs false).length : Int) ≤ r → ∀ H', Ex H H' → E (.ref N) none H') ∧
  (r < ((fr cs hs false).length : Int) → ∀ (k : Nat) H1 H2, headV (fr cs hs false) = .int (k : Int) → k < cs.length → Ex H H1 → Ex (upd H1 cl (.lst ((cs.set k 1).map V.int))) H2 → Q (.int (k : Int)) H2)
def spChg (C N : Addr) (d : Int) (f : List Int → Nat → V) : Sp := fun vs H Q E => ∃ p cl hl cs hs z, vs = [.ref p, .int z] ∧ Sp' C H p cl hl cs hs ∧ (∀ k : Nat, z = (k : Int) → k < cs.length → used cs z → ∀ H1 H2, Ex H H1 → Ex (upd H1 cl (.lst ((cs.set k (cv cs k + d)).map V.int))) H2 → Q (f cs k) H2) ∧ (¬ (In cs z ∧ used cs z) → ∀ H', Ex H H' → E (.ref N) none H')
def spSettle (C : Addr) : Sp := fun vs H Q _ => ∃ p cl hl cs hs dx, vs = [.ref p] ∧ Sp' C H p cl hl cs hs ∧ H p = some (.ins C dx (flds cs.length cl hl)) ∧ ∀ l H1, H l = none → Ex H H1 → H1 l = some (.lst ((pos cs).map V.bl)) → Q .non (upd H1 p (.ins C dx (flds cs.length cl l)))
def spSaved (C : Addr) : Sp := fun vs H Q _ => ∃ p cl hl cs hs, vs = [.ref p] ∧ Sp' C H p cl hl cs hs ∧ ∀ t ct ht H1, H t = none → H ct = none → H ht = none → Ex H H1 → H1 t = some (.tup [.ref ct, .ref ht]) → H1 ct = some (.tup (cs.map V.int)) → H1 ht = some (.tup (hs.map V.bl)) → Q (.ref t) H1
def spRest (K : PySem.W.Frag) (C : Addr) : Sp := fun vs H Q _ => ∃ p t ct ht cl hl cs hs cs' hs', vs = [.ref p, .ref t] ∧ Sp' C H p cl hl cs hs ∧ SqT K H t [.ref ct, .ref ht] ∧ SqT K H ct (cs'.map V.int) ∧ SqT K H ht (hs'.map V.bl) ∧ cs'.length = cs.length ∧ hs'.length = cs.length ∧
  ∀ cl' hl' H1, Fr (fun a => a = p) H H1 → H cl' = none → H hl' = none → cl' ≠ hl' → Sp' C H1 p cl' hl' cs' hs' → Q .non H1
def spInit (K : PySem.W.Frag) (C : Addr) : Sp := fun vs H Q _ => ∃ p u dx cs, vs = [.ref p, .ref u] ∧ H p = some (.ins C dx []) ∧ SqL K H u (cs.map V.int) ∧ cs.length ≤ 256 ∧ ∀ cl hl H1, Fr (fun a => a = p) H H1 → H cl = none → H hl = none → cl ≠ hl → Sp' C H1 p cl hl cs (pos cs) → Q .non H1
section
variable {P : Program} {w : World} {K : PySem.W.Frag} {mg : Str → Option Value} {base : Heap} {C CN CS : Addr}
theorem ok_cu {f : Addr} {fd : FuncData} (F : Fun K "_count_unused" "Space._count_unused" sCu f fd) (T : Txt mg K C) : FnOk P w K mg base CX0 1 f fd ["self", "held"] (spCu C fun _ => True) := by
  refine F.ok scCu (fun vs H Q E h => ?_) (fun cdv A outer s H vs Q E hr h => ?_)
  · obtain ⟨p, cl, hl, cs, hs, b, rfl, _⟩ := h
    rfl
  · obtain ⟨p, cl, hl, cs, hs, b, rfl, S, q⟩ := h
    obtain ⟨dx, ho⟩ := S.o
    refine ⟨_, (pss_one (ps_ret (pe_callB call_len_seq (by rfl) T.len (by decide +kernel) (pa_cons (pe_lc (own := [("count", 2), ("now_held", 3)]) (g := gTup K 2 (gCons (gName 2) (gCons (gName 3) gNil))) rfl scCu.nd (pi_zip (by rfl) T.zip (pa_cons (pe_fld (pv 0) rfl) (pa_cons (pe_fld (pv 0) rfl) pa_nil))) (blkOk_by (own := [("count", 2), ("now_held", 3)]) (N := ["self", "held", "count", "now_held"]) (sc := defScope sCu) (by decide +kernel)) (fun _ _ _ _ _ => pg_tup rfl (pgs_cons (pg_name (i := 2) scCu.nd rfl (Or.inl rfl)) (pgs_cons (pg_name (i := 3) scCu.nd rfl (Or.inl rfl)) pgs_nil))) (fun _ _ _ _ _ => (pts_one (PW.pt (pw_and (pt_cmpR op_eq (pv 2) pe_int (nomark _)) (pw_and1 (pt_cmpR op_eq (pv 3) (pv 1) (nomark _))))))) (fun _ _ _ _ _ => (pv 2))) pa_nil)))), ?_⟩
    refine s_ret (ev_is (ev_lenN (el_lcZ (fr1 cs hs b) (fun i => .int (cv cs i)) (ea_cons (ev_fld (ev_var rfl) ho T.cl T.nC (fl_c _ _ _)) (ea_cons (ev_fld (ev_var rfl) ho T.cl T.nH (fl_h _ _ _)) ea_nil)) (sq_of S.c) (sq_of S.h) (by rw [List.length_map, List.length_map]; exact S.len) (by rw [List.length_map]; have := S.le; omega) (fun _ _ => rfl)
      (fun n x y H1 e1 hx hy => ?_) (fun n x y H1 e1 hx hy _ => ?_))) (show _ = V.int ((fr cs hs b).length : Nat) by rw [given_length, List.length_map]; rfl)) fun H1 e1 => q H1 e1
    · have hn : n < cs.length := by
        have := (List.getElem?_eq_some_iff.mp hx).1
        rwa [List.length_map] at this
      rw [cv_at hn] at hx
      cases hx
      rw [hv_at (by rw [← S.len]; exact hn)] at hy
      cases hy
      exact et_and (et_test (ev_op (ev_var rfl) ev_c (rv_eq rfl))) (fun _ => et_test (ev_op (ev_var rfl) (ev_var rfl) (rv_eq rfl)))
    · have hn : n < cs.length := by
        have := (List.getElem?_eq_some_iff.mp hx).1
        rwa [List.length_map] at this
      rw [cv_at hn] at hx
      cases hx
      exact ev_var rfl
theorem ok_free {f fC : Addr} {fd fdC : FuncData} (F : Fun K "free" "Space.free" sFr f fd) (Gcount_unused : FnOk P w K mg base CX0 1 fC fdC ["self", "held"] (spCu C fun _ => True)) (bcount_unused : Binds K fdC ["self", "held"] []) (mcount_unused : Meth K C "_count_unused" fC) (T : Txt mg K C) : FnOk P w K mg base CX0 2 f fd ["self"] (spSelf C fun cs hs => .int ((fr cs hs false).length : Nat)) := by
  refine F.ok scFr (fun vs H Q E h => ?_) (fun cdv A outer s H vs Q E hr h => ?_)
  · obtain ⟨p, cl, hl, cs, hs, rfl, _⟩ := h
    rfl
  · obtain ⟨p, cl, hl, cs, hs, rfl, S, q⟩ := h
    obtain ⟨dx, ho⟩ := S.o
    refine ⟨_, (pss_one (ps_ret (pe_meth (pv 0) T.cl mcount_unused Gcount_unused (hr.mono (by decide)) bcount_unused .nil pass0 (pa_cons pe_bl pa_nil)))), ?_⟩
    exact r_m (ev_var rfl) ho (fl_no _ _ _ ⟨by decide +kernel, by decide +kernel, by decide +kernel⟩) (ea_cons ev_c ea_nil) fun H1 e1 => ⟨p, cl, hl, cs, hs, false, rfl, S.ex e1, fun H2 e2 => q H2 (e1.trans e2)⟩
theorem sv_self {H : Hp} {p cl hl : Addr} {cs : List Int} {hs : List Bool} {f : List Int → List Bool → V} (S : Sp' C H p cl hl cs hs) : SpV (spSelf C f) [.ref p] H (f cs hs) := fun H1 e1 Q q E => ⟨p, cl, hl, cs, hs, rfl, S.ex e1, q⟩
theorem ok_least {f fC : Addr} {fd fdC : FuncData} (F : Fun K "least_free" "Space.least_free" sLeast f fd) (Gis_free : FnOk P w K mg base (L2.CX P w) 4 fC fdC ["self", "block"] (spAt C CN always fun cs hs k => .bl (decide (V.int (cv cs k) = V.int 0) && !hv hs k))) (bis_free : Binds K fdC ["self", "block"] []) (mis_free : Meth K C "is_free" fC) (T : Txt mg K C) : FnOk P w K mg base CX0 5 f fd ["self"] (spSelf C fun cs hs => headV (fr cs hs false)) := by
  refine F.ok scLeast (fun vs H Q E h => ?_) (fun cdv A outer s H vs Q E hr h => ?_)
  · obtain ⟨p, cl, hl, cs, hs, rfl, _⟩ := h
    rfl
  · obtain ⟨p, cl, hl, cs, hs, rfl, S, q⟩ := h
    obtain ⟨dx, ho⟩ := S.o
    replace q : RetV (headV (fr cs hs false)) H Q := q
    refine ⟨_, (pss_cons (ps_for PassesOwn.never rfl (pi_range1 (by rfl) T.range (pa_cons (pe_fld (pv 0) rfl) pa_nil)) (pg_name (i := 1) scLeast.nd rfl (Or.inl rfl)) (pss_one (ps_if (pt_val (pe_meth (pv 0) T.cl mis_free Gis_free (hr.mono (by decide)) bis_free .nil passL (pa_cons (pv 1) pa_nil))) (pss_one (ps_ret (pv 1))) pss_nil)))
      (pss_one (ps_ret pe_non))), ?_⟩
    have hle := S.le
    refine q_forR1 (n := (cs.length : Int)) (ea_cons (ev_fld (ev_var rfl) ho T.cl T.nB (fl_b _ _ _)) ea_nil) ⟨by omega, by omega⟩ (fun i σ' H' => ∃ y, σ' = [some (.ref p), y] ∧ Ex H H' ∧ ∀ j, j < i → fr1 cs hs false j = false) (fun H1 e1 => ⟨none, rfl, e1, fun j hj => absurd hj (by omega)⟩) ?_ ?_
    · rintro i σ' H' hi ⟨y, rfl, e0, hn⟩
      have hi' : i < cs.length := by omega
      have eb : (decide (V.int (cv cs i) = V.int 0) && !hv hs i) = fr1 cs hs false i := by
        unfold fr1
        rw [not_dec]
      have S0 := S.ex e0
      refine s_when (et_is (et_B (ev_meth (z := .bl (decide (V.int (cv cs i) = V.int 0) && !hv hs i)) (ev_var rfl) (e0 _ _ ho) (fl_no _ _ _ ⟨by decide +kernel, by decide +kernel, by decide +kernel⟩) (ea_cons (ev_var rfl) ea_nil) (sv_uses (CN := CN) (f := fun cs hs k => .bl (decide (V.int (cv cs k) = V.int 0) && !hv hs k)) S0 hi'))) eb) (fun hb H1 e1 => ?_) (fun hb H1 e1 => ⟨_, rfl, e0.trans e1, fun j hj => ?_⟩)
      · rw [head_some hi' hb hn] at q
        exact s_ret (ev_var rfl) fun H2 e2 => q H2 ((e0.trans e1).trans e2)
      · by_cases hji : j = i
        · rw [hji]
          exact hb
        · exact hn j (by omega)
    · rintro σ' H' ⟨y, rfl, e0, hn⟩
      rw [head_none fun j hj => hn j (by simpa using hj)] at q
      exact s_ret ev_c fun H2 e2 => q H2 (e0.trans e2)
theorem ok_take {f fF fL : Addr} {fd fdF fdL : FuncData} (F : Fun K "take" "Space.take" sTake f fd) (Gfree : FnOk P w K mg base CX0 2 fF fdF ["self"] (spSelf C fun cs hs => .int ((fr cs hs false).length : Nat))) (bfree : Binds K fdF ["self"] []) (mfree : Meth K C "free" fF) (Gleast_free : FnOk P w K mg base CX0 5 fL fdL ["self"] (spSelf C fun cs hs => headV (fr cs hs false))) (bleast_free : Binds K fdL ["self"] []) (mleast_free : Meth K C "least_free" fL) (T : Txt mg K C) (XS : Xc K mg "NoSpace" CS) : FnOk P w K mg base (L2.CX P w) 6 f fd ["self", "reserve"] (spTake C CS) := by
  refine F.okX scTake (fun vs H Q E h => ?_) (fun cdv A outer s H vs Q E hr h => ?_)
  · obtain ⟨p, cl, hl, cs, hs, r, rfl, _⟩ := h
    rfl
  · obtain ⟨p, cl, hl, cs, hs, r, rfl, S, hr0, qE, q⟩ := h
    obtain ⟨dx, ho⟩ := S.o
    refine ⟨_, (pss_cons (ps_if (pt_cmpR op_le (pe_meth0 (pv 0) T.cl mfree Gfree (hr.mono (by decide)) bfree .nil pass0) (pv 1) (nomark _)) (pss_one (ps_raise0 rfl XS (takes_of rfl rfl rfl rfl) (by rfl))) pss_nil)
      (pss_cons (ps_set (i := 2) scTake.nd rfl (Or.inl rfl) (pe_meth0 (pv 0) T.cl mleast_free Gleast_free (hr.mono (by decide)) bleast_free .nil pass0))
      (pss_cons (ps_asg pe_int (pg_sub (pe_fld (pv 0) rfl) (pv 2) set_list))
      (pss_one (ps_ret (pv 2)))))), ?_⟩
    refine q_when (et_test (ev_op (ev_meth0 (ev_var rfl) ho (fl_no _ _ _ ⟨by decide +kernel, by decide +kernel, by decide +kernel⟩) (sv_self (f := fun cs hs => .int ((fr cs hs false).length : Nat)) S)) (ev_var rfl) rv_I0)) (fun hb H1 e1 => qE (of_decide_eq_true hb) H1 e1) (fun hb H1 e1 => ?_)
    have hlt : r < ((fr cs hs false).length : Int) := by
      have := of_decide_eq_false hb
      omega
    obtain ⟨k, hk, hkl, _⟩ := head_of (cs := cs) (hs := hs) (b := false) (by omega)
    have S1 := S.ex e1
    refine q_asg (ev_is (ev_meth0 (ev_var rfl) (e1 _ _ ho) (fl_no _ _ _ ⟨by decide +kernel, by decide +kernel, by decide +kernel⟩) (sv_self (f := fun cs hs => headV (fr cs hs false)) S1)) hk) fun H2 e2 => ?_
    have S2 := S1.ex e2
    refine q_setL (j := k) S2.c ev_c (ev_fld (ev_var rfl) (e2 _ _ (e1 _ _ ho)) T.cl T.nC (fl_c _ _ _)) (ev_var rfl) (by rw [List.length_map]; exact hkl) fun H3 e3 => ?_
    rw [map_set]
    exact s_ret (ev_var rfl) fun H4 e4 => q hlt k H3 H4 hk hkl ((e1.trans e2).trans e3) e4
theorem ok_share {f fC : Addr} {fd fdC : FuncData} (F : Fun K "share" "Space.share" sShare f fd) (Gcheck_used : FnOk P w K mg base (L2.CX P w) 3 fC fdC ["self", "block"] (spAt C CN used fun _ _ _ => .non)) (bcheck_used : Binds K fdC ["self", "block"] []) (mcheck_used : Meth K C "_check_used" fC) (T : Txt mg K C) : FnOk P w K mg base (L2.CX P w) 4 f fd ["self", "block"] (spChg C CN 1 fun _ _ => .non) := by
  refine F.okX scShare (fun vs H Q E h => ?_) (fun cdv A outer s H vs Q E hr h => ?_)
  · obtain ⟨p, cl, hl, cs, hs, z, rfl, _⟩ := h
    rfl
  · obtain ⟨p, cl, hl, cs, hs, z, rfl, S, q, qE⟩ := h
    obtain ⟨dx, ho⟩ := S.o
    refine ⟨_, (pss_cons (ps_expr (pe_meth (pv 0) T.cl mcheck_used Gcheck_used (hr.mono (by decide)) bcheck_used .nil (pass_own (takes_of rfl rfl rfl rfl)) (pa_cons (pv 1) pa_nil)))
      (pss_one (ps_augS (pe_fld (pv 0) rfl) (pv 1) get_list pe_int ip_add set_list))), ?_⟩
    refine q_m (ev_var rfl) ho (fl_no _ _ _ ⟨by decide +kernel, by decide +kernel, by decide +kernel⟩) (ea_cons (ev_var rfl) ea_nil) fun H1 e1 => ⟨p, cl, hl, cs, hs, z, rfl, S.ex e1, fun k hk hlt hu H2 e2 => ?_, fun hn H2 e2 => qE hn H2 (e1.trans e2)⟩
    subst hk
    have S2 := S.ex (e1.trans e2)
    obtain ⟨dx2, ho2⟩ := S2.o
    refine s_augL (ev_fld (ev_var rfl) ho2 T.cl T.nC (fl_c _ _ _)) (ev_var rfl) S2.c (cv_at hlt) ev_c fun H3 e3 => ?_
    rw [map_set]
    exact q k rfl hlt hu H3 _ ((e1.trans e2).trans e3) (Ex.refl _)
theorem ok_drop {f fC : Addr} {fd fdC : FuncData} (F : Fun K "drop" "Space.drop" sDrop f fd) (Gcheck_used : FnOk P w K mg base (L2.CX P w) 3 fC fdC ["self", "block"] (spAt C CN used fun _ _ _ => .non)) (bcheck_used : Binds K fdC ["self", "block"] []) (mcheck_used : Meth K C "_check_used" fC) (T : Txt mg K C) : FnOk P w K mg base (L2.CX P w) 4 f fd ["self", "block"] (spChg C CN (-1) fun cs k => .int (cv cs k - 1)) := by
  refine F.okX scDrop (fun vs H Q E h => ?_) (fun cdv A outer s H vs Q E hr h => ?_)
  · obtain ⟨p, cl, hl, cs, hs, z, rfl, _⟩ := h
    rfl
  · obtain ⟨p, cl, hl, cs, hs, z, rfl, S, q, qE⟩ := h
    obtain ⟨dx, ho⟩ := S.o
    refine ⟨_, (pss_cons (ps_expr (pe_meth (pv 0) T.cl mcheck_used Gcheck_used (hr.mono (by decide)) bcheck_used .nil (pass_own (takes_of rfl rfl rfl rfl)) (pa_cons (pv 1) pa_nil)))
      (pss_cons (ps_augS (pe_fld (pv 0) rfl) (pv 1) get_list pe_int ip_sub set_list)
      (pss_one (ps_ret (pe_ix ix_list (pe_fld (pv 0) rfl) (pv 1) (fun _ _ => rfl)))))), ?_⟩
    refine q_m (ev_var rfl) ho (fl_no _ _ _ ⟨by decide +kernel, by decide +kernel, by decide +kernel⟩) (ea_cons (ev_var rfl) ea_nil) fun H1 e1 => ⟨p, cl, hl, cs, hs, z, rfl, S.ex e1, fun k hk hlt hu H2 e2 => ?_, fun hn H2 e2 => qE hn H2 (e1.trans e2)⟩
    subst hk
    have S2 := S.ex (e1.trans e2)
    obtain ⟨dx2, ho2⟩ := S2.o
    refine q_augL (ev_fld (ev_var rfl) ho2 T.cl T.nC (fl_c _ _ _)) (ev_var rfl) S2.c (cv_at hlt) ev_c fun H3 e3 => ?_
    rw [map_set]
    have hpc : p ≠ cl := fun e => by
      have h1 := S2.c
      rw [← e, ho2] at h1
      cases h1
    have ho3 : (upd H3 cl (.lst ((cs.set k (cv cs k - 1)).map V.int))) p = some (.ins C dx2 (flds cs.length cl hl)) := by
      rw [upd_ne hpc]
      exact e3 _ _ ho2
    refine s_ret (ev_op (ev_fld (ev_var rfl) ho3 T.cl T.nC (fl_c _ _ _)) (ev_var rfl) (rv_ixL (v := .int (cv cs k - 1)) (sq_of upd_same) (atI_nat (by rw [List.getElem?_map, List.getElem?_set_self hlt]; rfl)))) fun H4 e4 => q k rfl hlt hu H3 H4 ((e1.trans e2).trans e3) e4
theorem el_pos {H : Hp} {σ : L2.St} {te : TE} {a : Addr} {j : Nat} {vs : List Nat} {cs : List Int} (h : Ev te σ H (.ref a)) (hx : SqL K H a (cs.map V.int)) (hz : cs.length ≤ 256) (hw : ∀ x, wipe ((wipe σ vs).set j (some x)) vs = wipe σ vs) (hj : j < (wipe σ vs).length) :
    EvL (tLc (iList K te) (gName j) tYes (tOp (rI0 fun i j => .bl (decide (i > j))) (tVar j) (tC (.int 0))) vs) σ H ((pos cs).map V.bl) := by
  rw [← pos_map]
  refine el_lcL (fun _ => true) (fun i => .bl (decide (cv cs i > 0))) h hx (by rw [List.length_map]; omega) hw (fun _ _ H1 _ _ => fun H2 _ Q q => q _ (Ex.refl _)) fun i x H1 e1 hi _ => ?_
  have hn : i < cs.length := by
    have := (List.getElem?_eq_some_iff.mp hi).1
    rwa [List.length_map] at this
  rw [cv_at hn] at hi
  cases hi
  exact ev_op (ev_var (by rw [List.getElem?_set_self hj])) ev_c rv_I0
theorem eu_tuple {H : Hp} {σ : L2.St} {te : TE} {a : Addr} {xs : List V} (h : Ev te σ H (.ref a)) (hx : SqL K H a xs) : EvU (tCB (fun us H Q => ∃ p ys, us = [.ref p] ∧ ((SqL K H p ys ∧ ∀ l, H l = none → Q (.ref l) (upd H l (.tup ys))) ∨ (SqT K H p ys ∧ Q (.ref p) H))) (tCons te tNil)) σ H xs := fun H1 e Q q =>
  h H1 e _ fun H2 e2 => ⟨a, xs, rfl, .inl ⟨ex_l (e.trans e2) hx, fun l hl => q l _ (fresh_back e2 hl) (e2.trans (Ex.new hl)) upd_same⟩⟩
theorem r_pair {σ : L2.St} {H : Hp} {te tf : TE} {xs ys : List V} {D : Ends} (h1 : EvU te σ H xs) (h2 : EvU tf σ H ys) (q : ∀ t ct ht H1, H t = none → H ct = none → H ht = none → Ex H H1 → H1 t = some (.tup [.ref ct, .ref ht]) → H1 ct = some (.tup xs) → H1 ht = some (.tup ys) → D.rt (.ref t) H1) : tRet (tTup (tCons te (tCons tf tNil))) D σ H :=
  h1 H (Ex.refl _) _ fun ct H1 hct e1 g1 => h2 H1 e1 _ fun ht H2 hht e2 g2 => ⟨by show 2 ≤ sizeLine; decide, fun t ht' => q t ct ht _ (fresh_back (e1.trans e2) ht') hct (fresh_back e1 hht) ((e1.trans e2).trans (Ex.new ht')) upd_same ((Ex.new ht') _ _ (e2 _ _ g1)) ((Ex.new ht') _ _ g2)⟩
theorem ok_init {f : Addr} {fd : FuncData} (F : Fun K "__init__" "Space.__init__" sInit f fd) (T : Txt mg K C) : FnOk P w K mg base CX0 1 f fd ["self", "uses"] (spInit K C) := by
  refine F.ok scInit (fun vs H Q E h => ?_) (fun cdv A outer s H vs Q E hr h => ?_)
  · obtain ⟨p, u, dx, cs, rfl, _⟩ := h
    rfl
  · obtain ⟨p, u, dx, cs, rfl, ho, hU, hle, q⟩ := h
    refine ⟨_, (pss_cons (ps_fld (pv 0) (pe_callB call_len_seq (by rfl) T.len (by decide +kernel) (pa_cons (pv 1) pa_nil)) rfl)
      (pss_cons (ps_fld (pv 0) (pe_callTy call_list_of (by rfl) T.list (by decide +kernel) (pa_cons (pv 1) pa_nil)) rfl)
      (pss_one (ps_fld (pv 0) (pe_lc (own := [("count", 2)]) (g := gName 2) (tt := tYes) rfl scInit.nd (pi_list (pv 1)) (blkOk_by (own := [("count", 2)]) (N := ["self", "uses", "count"]) (sc := defScope sInit) (by decide +kernel)) (fun _ _ _ _ _ => pg_name (i := 2) scInit.nd rfl (Or.inl rfl)) (fun _ _ _ _ _ => pts_nil) (fun _ _ _ _ _ => (pe_cmpR op_gt (pv 2) pe_int (nomark _)))) rfl)))), ?_⟩
    refine q_fld (ev_is (ev_len (ev_var rfl) hU) (by rw [List.length_map])) (ev_var rfl) ho T.cl T.nB (by show 0 < 1000; decide) fun H1 e1 => ?_
    rw [fl_0]
    have u1 := mut_l (fs' := [(("blocks" : Str), V.int cs.length)]) e1 ho hU
    refine q_fldL (el_list (ev_var rfl) u1) (ev_var rfl) upd_same T.cl T.nC (by show 1 < 1000; decide) fun c1 H2 hc1 e2 h2 => ?_
    rw [fl_1]
    have u2 := mut_l (fs' := [(("blocks" : Str), V.int cs.length), (("_counts" : Str), V.ref c1)]) e2 upd_same u1
    refine s_fldL (el_pos (ev_var rfl) u2 hle (fun _ => rfl) (by show 2 < 3; decide)) (ev_var rfl) upd_same T.cl T.nH (by show 2 < 1000; decide) fun h1' H3 hh1 e3 h3 => ?_
    rw [fl_2]
    have nc : c1 ≠ p := fun e => by
      rw [e, upd_same] at hc1
      cases hc1
    have nh : h1' ≠ p := fun e => by
      rw [e, upd_same] at hh1
      cases hh1
    have c3 : H3 c1 = some (.lst (cs.map V.int)) := e3 _ _ (by rw [upd_ne nc]; exact h2)
    refine q c1 h1' _ (fun a o ha hn => ?_) ?_ ?_ (fun e => ?_) ⟨by unfold pos; rw [List.length_map], hle, ⟨dx, upd_same⟩, by rw [upd_ne nc]; exact c3, by rw [upd_ne nh]; exact h3⟩
    · rw [upd_ne hn]
      exact e3 _ _ (by rw [upd_ne hn]; exact e2 _ _ (by rw [upd_ne hn]; exact e1 _ _ ha))
    · rw [upd_ne nc] at hc1
      exact fresh_back e1 hc1
    · rw [upd_ne nh] at hh1
      have := fresh_back e2 hh1
      rw [upd_ne nh] at this
      exact fresh_back e1 this
    · rw [← e, upd_ne nc, h2] at hh1
      cases hh1
end
end K23S

set_option Elab.async false
set_option linter.all false
set_option maxRecDepth 100000
set_option maxHeartbeats 4000000
namespace K23
open PySem PySem.Spec PyProof.Rows L2 Evl LK LT LG LS LQ LX LO LN LP LH LV LZ LW StX LD
def top (i : Nat) : Stmt := PySem.Challenge.pw_laminae_k23_store.main.body.getD i (.Pass ⟨0, 0, 0, 0⟩)
abbrev sRb : Stmt := top 17
theorem scRb : FnScope ["disk", "number", "words", "at"] ["disk", "number"] (defScope sRb) := ⟨rfl, rfl, rfl, by decide +kernel, rfl, by decide +kernel, by decide +kernel⟩
abbrev sHin : Stmt := inClass (top 21) 0
theorem scHin : FnScope ["self", "generation", "table", "blocks"] ["self", "generation", "table", "blocks"] (defScope sHin) := ⟨rfl, rfl, rfl, by decide +kernel, rfl, by decide +kernel, by decide +kernel⟩
abbrev sInit : Stmt := inClass (top 26) 0
theorem scInit : FnScope ["self", "disk", "head", "space"] ["self", "disk", "head", "space"] (defScope sInit) := ⟨rfl, rfl, rfl, by decide +kernel, rfl, by decide +kernel, by decide +kernel⟩
abbrev sUr : Stmt := inClass (top 26) 2
theorem scUr : FnScope ["self", "reserve"] ["self", "reserve"] (defScope sUr) := ⟨rfl, rfl, rfl, by decide +kernel, rfl, by decide +kernel, by decide +kernel⟩
abbrev sGen : Stmt := inClass (top 26) 4
theorem scGen : FnScope ["self"] ["self"] (defScope sGen) := ⟨rfl, rfl, rfl, by decide +kernel, rfl, by decide +kernel, by decide +kernel⟩
abbrev sRead : Stmt := inClass (top 26) 5
theorem scRead : FnScope ["self", "pointer", "number"] ["self", "pointer"] (defScope sRead) := ⟨rfl, rfl, rfl, by decide +kernel, rfl, by decide +kernel, by decide +kernel⟩
abbrev sNp : Stmt := inClass (top 26) 6
theorem scNp : FnScope ["self"] ["self"] (defScope sNp) := ⟨rfl, rfl, rfl, by decide +kernel, rfl, by decide +kernel, by decide +kernel⟩
abbrev sMake : Stmt := inClass (top 26) 7
theorem scMake : FnScope ["self", "words", "number"] ["self", "words"] (defScope sMake) := ⟨rfl, rfl, rfl, by decide +kernel, rfl, by decide +kernel, by decide +kernel⟩
abbrev sNew : Stmt := inClass (top 26) 8
theorem scNew : FnScope ["self", "pointer", "number"] ["self", "pointer"] (defScope sNew) := ⟨rfl, rfl, rfl, by decide +kernel, rfl, by decide +kernel, by decide +kernel⟩
abbrev sWrite : Stmt := inClass (top 26) 9
theorem scWrite : FnScope ["self", "pointer", "words"] ["self", "pointer", "words"] (defScope sWrite) := ⟨rfl, rfl, rfl, by decide +kernel, rfl, by decide +kernel, by decide +kernel⟩
abbrev sShare : Stmt := inClass (top 26) 10
theorem scShare : FnScope ["self", "pointer"] ["self", "pointer"] (defScope sShare) := ⟨rfl, rfl, rfl, by decide +kernel, rfl, by decide +kernel, by decide +kernel⟩
abbrev sDrop : Stmt := inClass (top 26) 11
theorem scDrop : FnScope ["self", "pointer", "number", "left"] ["self", "pointer"] (defScope sDrop) := ⟨rfl, rfl, rfl, by decide +kernel, rfl, by decide +kernel, by decide +kernel⟩
abbrev sUses : Stmt := inClass (top 26) 12
theorem scUses : FnScope ["self", "pointer"] ["self", "pointer"] (defScope sUses) := ⟨rfl, rfl, rfl, by decide +kernel, rfl, by decide +kernel, by decide +kernel⟩
abbrev sReq : Stmt := inClass (top 26) 13
theorem scReq : FnScope ["self", "many"] ["self", "many"] (defScope sReq) := ⟨rfl, rfl, rfl, by decide +kernel, rfl, by decide +kernel, by decide +kernel⟩
abbrev sFree : Stmt := inClass (top 26) 14
theorem scFree : FnScope ["self"] ["self"] (defScope sFree) := ⟨rfl, rfl, rfl, by decide +kernel, rfl, by decide +kernel, by decide +kernel⟩
abbrev sNb : Stmt := inClass (top 26) 15
theorem scNb : FnScope ["self"] ["self"] (defScope sNb) := ⟨rfl, rfl, rfl, by decide +kernel, rfl, by decide +kernel, by decide +kernel⟩
abbrev sTape : Stmt := top 28
theorem scTape : FnScope ["script", "tape", "k", "value", "step"] ["script"] (defScope sTape) := ⟨rfl, rfl, rfl, by decide +kernel, rfl, by decide +kernel, by decide +kernel⟩
abbrev sAt : Stmt := top 29
theorem scAt : FnScope ["tape", "k"] ["tape", "k"] (defScope sAt) := ⟨rfl, rfl, rfl, by decide +kernel, rfl, by decide +kernel, by decide +kernel⟩
abbrev sLb : Stmt := top 30
theorem scLb : FnScope ["number", "extra", "j"] ["number", "extra"] (defScope sLb) := ⟨rfl, rfl, rfl, by decide +kernel, rfl, by decide +kernel, by decide +kernel⟩
abbrev sLib : Stmt := top 31
theorem scLib : FnScope ["told", "due", "j"] ["told", "due"] (defScope sLib) := ⟨rfl, rfl, rfl, by decide +kernel, rfl, by decide +kernel, by decide +kernel⟩
abbrev sLpb : Stmt := top 32
theorem scLpb : FnScope ["disk", "number", "words", "part"] ["disk", "number", "words"] (defScope sLpb) := ⟨rfl, rfl, rfl, by decide +kernel, rfl, by decide +kernel, by decide +kernel⟩
abbrev sDo : Stmt := top 33
theorem scDo : FnScope ["store", "act", "pointer", "words", "e"] ["store", "act", "pointer", "words"] (defScope sDo) := ⟨rfl, rfl, rfl, by decide +kernel, rfl, by decide +kernel, by decide +kernel⟩
abbrev sLfr : Stmt := top 34
theorem scLfr : FnScope ["numbers", "held", "k"] ["numbers", "held"] (defScope sLfr) := ⟨rfl, rfl, rfl, by decide +kernel, rfl, by decide +kernel, by decide +kernel⟩
abbrev sDue : Stmt := top 35
theorem scDue : FnScope ["numbers", "held", "act", "number", "new"] ["numbers", "held", "act", "number"] (defScope sDue) := ⟨rfl, rfl, rfl, by decide +kernel, rfl, by decide +kernel, by decide +kernel⟩
abbrev sSame : Stmt := top 36
theorem scSame : FnScope ["told", "due"] ["told", "due"] (defScope sSame) := ⟨rfl, rfl, rfl, by decide +kernel, rfl, by decide +kernel, by decide +kernel⟩
abbrev sLmk : Stmt := top 37
theorem scLmk : FnScope ["store", "numbers", "held", "contents", "words", "valid", "generation", "free", "due"] ["store", "numbers", "held", "contents", "words", "valid", "generation"] (defScope sLmk) := ⟨rfl, rfl, rfl, by decide +kernel, rfl, by decide +kernel, by decide +kernel⟩
abbrev sLold : Stmt := top 38
theorem scLold : FnScope ["image", "number", "words", "part"] ["image", "number"] (defScope sLold) := ⟨rfl, rfl, rfl, by decide +kernel, rfl, by decide +kernel, by decide +kernel⟩
abbrev sEnd : Stmt := top 39
theorem scEnd : FnScope ["store", "numbers", "held", "contents", "image", "free", "many", "due", "number", "k"] ["store", "numbers", "held", "contents", "image"] (defScope sEnd) := ⟨rfl, rfl, rfl, by decide +kernel, rfl, by decide +kernel, by decide +kernel⟩
abbrev sLaw : Stmt := top 40
theorem scLaw : FnScope ["script", "tape", "generation", "disk", "contents", "numbers", "number", "image", "held", "store", "recent", "k", "act", "pick", "free", "words", "valid", "due", "told", "many"] ["script"] (defScope sLaw) := ⟨rfl, rfl, rfl, by decide +kernel, rfl, by decide +kernel, by decide +kernel⟩
/-! ### a store: its fields, its dict of new blocks, its disk and space -/
open K23D (DK Dk St)
open K23S (fr cv hv headV used In flds)
structure Txt (mg : Str → Option Value) : Prop where
  len : mg "len" = none
  range : mg "range" = none
  list : mg "list" = none
  tuple : mg "tuple" = none
  sorted : mg "sorted" = none
  isinstance : mg "isinstance" = none
  abs : mg "abs" = none
  int : mg "int" = none
  bool : mg "bool" = none
  min : mg "min" = none
  max : mg "max" = none
  gBLOCK_WORDS : ∃ t, mg "BLOCK_WORDS" = some (.int 32 t)
  gBLOCK_SECTORS : ∃ t, mg "BLOCK_SECTORS" = some (.int 4 t)
  gFIRST_BLOCK : ∃ t, mg "FIRST_BLOCK" = some (.int 5 t)
  gADD : ∃ t, mg "ADD" = some (.int 60 t)
structure TxT (mg : Str → Option Value) (K : PySem.W.Frag) (C : Addr) : Prop where
  cl : Cls K C
  nd : NoAttr K C "disk"
  nh : NoAttr K C "head"
  ns : NoAttr K C "space"
  nt : NoAttr K C "table"
  nr : NoAttr K C "reserve"
  nm : NoAttr K C "_memory"
  mgC : mg "Store" = some (.ref C)
structure TxH (mg : Str → Option Value) (K : PySem.W.Frag) (C : Addr) : Prop where
  cl : Cls K C
  ng : NoAttr K C "generation"
  nt : NoAttr K C "table"
  nb : NoAttr K C "blocks"
  mgC : mg "Head" = some (.ref C)
def hfl (g : Int) (tb : Addr) (n : Int) : List (Str × V) := [(("generation" : Str), .int g), (("table" : Str), .ref tb), (("blocks" : Str), .int n)]
def sfl (dp hp sp tb : Addr) (r : Int) (m : Addr) : List (Str × V) := [(("disk" : Str), .ref dp), (("head" : Str), .ref hp), (("space" : Str), .ref sp), (("table" : Str), .ref tb), (("reserve" : Str), .int r), (("_memory" : Str), .ref m)]
section
variable {dp hp sp tb m : Addr} {r r' : Int}
theorem t_d : (sfl dp hp sp tb r m).lookup ("disk" : Str) = some (V.ref dp) := rfl
theorem t_h : (sfl dp hp sp tb r m).lookup ("head" : Str) = some (V.ref hp) := rfl
theorem t_s : (sfl dp hp sp tb r m).lookup ("space" : Str) = some (V.ref sp) := rfl
theorem t_t : (sfl dp hp sp tb r m).lookup ("table" : Str) = some (V.ref tb) := rfl
theorem t_r : (sfl dp hp sp tb r m).lookup ("reserve" : Str) = some (V.int r) := rfl
theorem t_m : (sfl dp hp sp tb r m).lookup ("_memory" : Str) = some (V.ref m) := rfl
theorem t_pr : putF "reserve" (V.int r') (sfl dp hp sp tb r m) = sfl dp hp sp tb r' m := rfl
theorem t_no {x : Str} (h : x ≠ "disk" ∧ x ≠ "head" ∧ x ≠ "space" ∧ x ≠ "table" ∧ x ≠ "reserve" ∧ x ≠ "_memory") : (sfl dp hp sp tb r m).lookup x = Option.none := by
  unfold sfl
  rw [List.lookup_cons, beq_false_of_ne h.1, List.lookup_cons, beq_false_of_ne h.2.1, List.lookup_cons, beq_false_of_ne h.2.2.1, List.lookup_cons, beq_false_of_ne h.2.2.2.1, List.lookup_cons, beq_false_of_ne h.2.2.2.2.1, List.lookup_cons, beq_false_of_ne h.2.2.2.2.2]
  rfl
end
/-- which new blocks the dict holds -/
structure Mem (G : Hp) (n : Nat) (kvs : List (Key × V)) (mem : Nat → Option (List Int)) : Prop where
  v : ∀ k : Nat, (mem k = none ∧ valV kvs (.inl (k : Int)) = none) ∨ ∃ ws t, mem k = some ws ∧ valV kvs (.inl (k : Int)) = some (.ref t) ∧ G t = some (.tup (ws.map V.int))
  ks : ∃ ks : List Nat, kvs.map (·.1) = ks.map (fun k : Nat => (Sum.inl (k : Int) : Key)) ∧ ks.Nodup ∧ ∀ k, k ∈ ks ↔ k < n ∧ mem k ≠ none
theorem Mem.ex {G G' : Hp} {n : Nat} {kvs : List (Key × V)} {mem : Nat → Option (List Int)} (h : Mem G n kvs mem) (e : Ex G G') : Mem G' n kvs mem := ⟨fun k => (h.v k).imp id fun ⟨ws, t, a, b, c⟩ => ⟨ws, t, a, b, e _ _ c⟩, h.ks⟩
theorem nodup_len {n : Nat} : ∀ {ks : List Nat}, ks.Nodup → (∀ k ∈ ks, k < n) → ks.length ≤ n := fun {ks} hn hk => by
  have hp : ks.Perm ((List.range n).filter fun k => decide (k ∈ ks)) := (List.perm_ext_iff_of_nodup hn (List.Pairwise.filter _ List.nodup_range)).mpr fun a => by
    rw [List.mem_filter, List.mem_range, decide_eq_true_eq]
    exact ⟨fun h => ⟨hk a h, h⟩, fun h => h.2⟩
  rw [hp.length_eq]
  have := List.length_filter_le (fun k => decide (k ∈ ks)) (List.range n)
  rw [List.length_range] at this
  exact this
theorem Mem.len {G : Hp} {n : Nat} {kvs : List (Key × V)} {mem : Nat → Option (List Int)} (h : Mem G n kvs mem) : kvs.length ≤ n := by
  obtain ⟨ks, h1, h2, h3⟩ := h.ks
  have := congrArg List.length h1
  rw [List.length_map, List.length_map] at this
  rw [this]
  exact nodup_len h2 fun k hk => ((h3 k).mp hk).1
def setM (mem : Nat → Option (List Int)) (i : Nat) (o : Option (List Int)) : Nat → Option (List Int) := fun x => if x = i then o else mem x
theorem put_map {kvs : List (Key × V)} {k : Key} {v : V} (h : valV kvs k ≠ none) : (putK kvs k v).map (·.1) = kvs.map (·.1) := by
  unfold putK
  have ha : (kvs.any fun kv => decide (kv.1 = k)) = true := by
    rw [valV_any]
    cases hx : valV kvs k with
    | none => exact absurd hx h
    | some x => rfl
  rw [if_pos ha, List.map_map]
  refine List.map_congr_left fun p _ => ?_
  show (if p.1 = k then (p.1, v) else p).1 = p.1
  split <;> rfl
theorem Mem.put {G : Hp} {n i : Nat} {kvs : List (Key × V)} {mem : Nat → Option (List Int)} {ws : List Int} {t : Addr} (h : Mem G n kvs mem) (hi : i < n) (ht : G t = some (.tup (ws.map V.int))) : Mem G n (putK kvs (.inl (i : Int)) (.ref t)) (setM mem i (some ws)) := by
  refine ⟨fun k => ?_, ?_⟩
  · rw [valV_put]
    unfold setM
    by_cases e : k = i
    · subst e
      rw [if_pos rfl, if_pos rfl]
      exact .inr ⟨ws, t, rfl, rfl, ht⟩
    · rw [if_neg e, if_neg (fun z => e (by have := Sum.inl.inj z; omega))]
      exact h.v k
  · obtain ⟨ks, h1, h2, h3⟩ := h.ks
    by_cases hm : mem i = none
    · refine ⟨ks ++ [i], ?_, ?_, fun k => ?_⟩
      · have hv : valV kvs (.inl (i : Int)) = none := by
          rcases h.v i with ⟨_, b⟩ | ⟨_, _, a, _⟩
          · exact b
          · rw [hm] at a
            cases a
        rw [LD.put_keys hv, List.map_append, List.map_append, h1]
        rfl
      · rw [List.nodup_append]
        exact ⟨h2, by simp, fun a ha b hb => by
          rw [List.mem_singleton.mp hb]
          exact fun e => ((h3 i).mp (e ▸ ha)).2 hm⟩
      · rw [List.mem_append, List.mem_singleton, h3]
        unfold setM
        by_cases e : k = i
        · rw [if_pos e, e]
          exact ⟨fun _ => ⟨hi, fun z => by cases z⟩, fun _ => .inr rfl⟩
        · rw [if_neg e]
          exact ⟨fun h => h.resolve_right e, .inl⟩
    · refine ⟨ks, ?_, h2, fun k => ?_⟩
      · rw [put_map, h1]
        rcases h.v i with ⟨a, _⟩ | ⟨_, _, _, b, _⟩
        · exact absurd a hm
        · rw [b]
          exact fun z => by cases z
      · rw [h3]
        unfold setM
        by_cases e : k = i
        · rw [if_pos e, e]
          exact ⟨fun _ => ⟨hi, fun z => by cases z⟩, fun _ => ⟨hi, hm⟩⟩
        · rw [if_neg e]
theorem Mem.del {G : Hp} {n i : Nat} {kvs : List (Key × V)} {mem : Nat → Option (List Int)} (h : Mem G n kvs mem) : Mem G n (dropK kvs (.inl (i : Int))) (setM mem i none) := by
  refine ⟨fun k => ?_, ?_⟩
  · rw [LD.valV_drop]
    unfold setM
    by_cases e : k = i
    · subst e
      rw [if_pos rfl, if_pos rfl]
      exact .inl ⟨rfl, rfl⟩
    · rw [if_neg e, if_neg (fun z => e (by have := Sum.inl.inj z; omega))]
      exact h.v k
  · obtain ⟨ks, h1, h2, h3⟩ := h.ks
    refine ⟨ks.filter fun k => decide (k ≠ i), ?_, List.Pairwise.filter _ h2, fun k => ?_⟩
    · have gen : ∀ (l : List (Key × V)) (ks : List Nat), l.map (·.1) = ks.map (fun k : Nat => (Sum.inl (k : Int) : Key)) → (dropK l (.inl (i : Int))).map (·.1) = (ks.filter fun k => decide (k ≠ i)).map (fun k : Nat => (Sum.inl (k : Int) : Key)) := by
        intro l
        induction l with
        | nil =>
          intro ks hk
          cases ks with
          | nil => rfl
          | cons a r => simp at hk
        | cons p r ih =>
          intro ks hk
          cases ks with
          | nil => simp at hk
          | cons a s =>
            rw [List.map_cons, List.map_cons] at hk
            have hk1 := (List.cons.inj hk).1
            have hk2 := (List.cons.inj hk).2
            unfold dropK at ih ⊢
            by_cases e : a = i
            · rw [List.filter_cons_of_neg (by rw [hk1, e]; simp), List.filter_cons_of_neg (by rw [e]; simp)]
              exact ih s hk2
            · rw [List.filter_cons_of_pos (by rw [hk1]; simp; omega), List.filter_cons_of_pos (by simpa using e), List.map_cons, List.map_cons, hk1, ih s hk2]
      exact gen kvs ks h1
    · rw [List.mem_filter, h3, decide_eq_true_eq]
      unfold setM
      by_cases e : k = i
      · rw [if_pos e]
        exact ⟨fun h => absurd e h.2, fun h => absurd rfl h.2⟩
      · rw [if_neg e]
        exact ⟨fun h => h.1, fun h => ⟨h, e⟩⟩
structure Cc where
  T : Addr
  H : Addr
  S : Addr
  D : Addr
structure Sk where
  dp : Addr
  hp : Addr
  sp : Addr
  tb : Addr
  m : Addr
  cl : Addr
  hl : Addr
  ka : Addr
  sa : Addr
  wa : Addr
  g : Int
  hs : List Bool
  f : Nat → List Int
  n : Nat
structure Sd where
  r : Int
  cs : List Int
  mem : Nat → Option (List Int)
structure ST (c : Cc) (G H : Hp) (q : Addr) (k : Sk) (d : Sd) : Prop where
  dk : DK c.D G H k.dp k.ka k.sa k.wa k.n ⟨k.f, [], true, none⟩
  o : ∃ dx, H q = some (.ins c.T dx (sfl k.dp k.hp k.sp k.tb d.r k.m))
  gq : G q = none
  h : ∃ dx, G k.hp = some (.ins c.H dx (hfl k.g k.tb k.n))
  s : ∃ dx, G k.sp = some (.ins c.S dx (flds k.n k.cl k.hl))
  c : H k.cl = some (.lst (d.cs.map V.int))
  gc : G k.cl = none
  hh : G k.hl = some (.lst (k.hs.map V.bl))
  lc : d.cs.length = k.n
  lh : k.hs.length = k.n
  mm : ∃ kvs, H k.m = some (.dK kvs) ∧ Mem G k.n kvs d.mem
  gm : G k.m = none
  q1 : q ≠ k.dp ∧ q ≠ k.ka ∧ q ≠ k.sa ∧ q ≠ k.wa
  c1 : k.cl ≠ k.dp ∧ k.cl ≠ k.ka ∧ k.cl ≠ k.sa ∧ k.cl ≠ k.wa
  m1 : k.m ≠ k.dp ∧ k.m ≠ k.ka ∧ k.m ≠ k.sa ∧ k.m ≠ k.wa
  qc : q ≠ k.cl
  qm : q ≠ k.m
  cm : k.cl ≠ k.m
theorem dk_bx {C : Addr} {G H H1 : Hp} {p ka sa wa x : Addr} {n : Nat} {d : Dk} (D : DK C G H p ka sa wa n d) (gx : G x = none) (nx : x ≠ p ∧ x ≠ ka ∧ x ≠ sa ∧ x ≠ wa) (b : Bx x H H1) : DK C G H1 p ka sa wa n d := by
  obtain ⟨dx, ho⟩ := D.o
  obtain ⟨ks, k1, k2, k3⟩ := D.k
  obtain ⟨ss, s1, s2, s3⟩ := D.s
  obtain ⟨ts, w1, w2, w3⟩ := D.w
  exact ⟨fun a o h => b a o (fun z => by rw [z, gx] at h; cases h) (D.g a o h), D.gp, D.gk, D.gs, D.gw, D.nks, D.nkw, D.nsw, ⟨dx, b _ _ nx.1.symm ho⟩, ⟨ks, b _ _ nx.2.1.symm k1, k2, k3⟩, ⟨ss, b _ _ nx.2.2.1.symm s1, s2, s3⟩, ⟨ts, b _ _ nx.2.2.2.symm w1, w2, w3⟩, D.n0, D.n1, D.wl, D.ok, D.kz⟩
section
variable {c : Cc} {G G' H H1 H2 : Hp} {q : Addr} {k : Sk} {d : Sd}
theorem ST.ex (s : ST c G H q k d) (e : Ex H H1) : ST c G H1 q k d := ⟨s.dk.ex e, let ⟨dx, h⟩ := s.o; ⟨dx, e _ _ h⟩, s.gq, s.h, s.s, e _ _ s.c, s.gc, s.hh, s.lc, s.lh, let ⟨kvs, a, b⟩ := s.mm; ⟨kvs, e _ _ a, b⟩, s.gm, s.q1, s.c1, s.m1, s.qc, s.qm, s.cm⟩
theorem ST.al (s : ST c G H q k d) : H q ≠ none ∧ H k.cl ≠ none ∧ H k.m ≠ none := by
  obtain ⟨dx, h⟩ := s.o
  obtain ⟨kvs, a, _⟩ := s.mm
  have hc := s.c
  exact ⟨by rw [h]; exact fun z => (by cases z), by rw [hc]; exact fun z => (by cases z), by rw [a]; exact fun z => by cases z⟩
/-- all that is new since H joins what is frozen -/
theorem ST.join (s : ST c G H q k d) (e : Ex H H1) : ∃ G', St G H G' H1 ∧ ST c G' H1 q k d ∧ ∀ a o, H a = none → H1 a = some o → G' a = some o := by
  obtain ⟨a1, a2, a3⟩ := s.al
  obtain ⟨S1, D1⟩ := s.dk.joinG e
  have gg : Ex G (grow G H H1 fun _ => False) := grow_ex
  have s1 := s.ex e
  exact ⟨grow G H H1 fun _ => False, S1, ⟨D1, s1.o, grow_no a1 s.gq, let ⟨dx, h⟩ := s.h; ⟨dx, gg _ _ h⟩, let ⟨dx, h⟩ := s.s; ⟨dx, gg _ _ h⟩, s1.c, grow_no a2 s.gc, gg _ _ s.hh, s.lc, s.lh, let ⟨kvs, a, b⟩ := s1.mm; ⟨kvs, a, b.ex gg⟩, grow_no a3 s.gm, s.q1, s.c1, s.m1, s.qc, s.qm, s.cm⟩, fun a o h h1 => grow_new (K23D.DK.rec (motive := fun _ => G a = none) (fun g _ _ _ _ _ _ _ _ _ _ _ _ _ _ _ _ => fresh_back g h) s.dk) h id h1⟩
theorem ST.sp (s : ST c G H q k d) : K23S.Sp' c.S H k.sp k.cl k.hl d.cs k.hs := ⟨by rw [s.lc, s.lh], by rw [s.lc]; exact s.dk.n1, let ⟨dx, h⟩ := s.s; ⟨dx, by rw [s.lc]; exact s.dk.g _ _ h⟩, s.c, s.dk.g _ _ s.hh⟩
theorem ST.setR {r : Int} (s : ST c G H q k d) {dx : Addr} (ho : H q = some (.ins c.T dx (sfl k.dp k.hp k.sp k.tb d.r k.m))) (e : Ex H H1) : ST c G (upd H1 q (.ins c.T dx (sfl k.dp k.hp k.sp k.tb r k.m))) q k { d with r := r } := by
  have s1 := s.ex e
  exact ⟨dk_bx s1.dk s.gq s.q1 (Bx.of (Ex.refl _)).up, ⟨dx, upd_same⟩, s.gq, s.h, s.s, by rw [upd_ne s.qc.symm]; exact s1.c, s.gc, s.hh, s.lc, s.lh, let ⟨kvs, a, b⟩ := s1.mm; ⟨kvs, by rw [upd_ne s.qm.symm]; exact a, b⟩, s.gm, s.q1, s.c1, s.m1, s.qc, s.qm, s.cm⟩
theorem ST.setC {cs : List Int} (s : ST c G H q k d) (hl : cs.length = d.cs.length) (e : Ex H H1) (e2 : Ex (upd H1 k.cl (.lst (cs.map V.int))) H2) : ST c G H2 q k { d with cs := cs } := by
  have s1 := s.ex e
  have t : ST c G (upd H1 k.cl (.lst (cs.map V.int))) q k { d with cs := cs } := ⟨dk_bx s1.dk s.gc s.c1 (Bx.of (Ex.refl _)).up, let ⟨dx, h⟩ := s1.o; ⟨dx, by rw [upd_ne s.qc]; exact h⟩, s.gq, s.h, s.s, upd_same, s.gc, s.hh, by rw [← s.lc]; exact hl, s.lh, let ⟨kvs, a, b⟩ := s1.mm; ⟨kvs, by rw [upd_ne s.cm.symm]; exact a, b⟩, s.gm, s.q1, s.c1, s.m1, s.qc, s.qm, s.cm⟩
  exact t.ex e2
theorem ST.setM {kvs : List (Key × V)} {mem : Nat → Option (List Int)} (s : ST c G H q k d) (hm : Mem G k.n kvs mem) (e : Ex H H1) : ST c G (upd H1 k.m (.dK kvs)) q k { d with mem := mem } := by
  have s1 := s.ex e
  exact ⟨dk_bx s1.dk s.gm s.m1 (Bx.of (Ex.refl _)).up, let ⟨dx, h⟩ := s1.o; ⟨dx, by rw [upd_ne s.qm]; exact h⟩, s.gq, s.h, s.s, by rw [upd_ne s.cm]; exact s1.c, s.gc, s.hh, s.lc, s.lh, ⟨kvs, upd_same, hm⟩, s.gm, s.q1, s.c1, s.m1, s.qc, s.qm, s.cm⟩
end

end K23

set_option Elab.async false
set_option linter.all false
set_option maxRecDepth 100000
set_option maxHeartbeats 4000000
namespace K23
open PySem PySem.Spec PyProof.Rows L2 Evl LK LT LG LS LQ LX LO LN LP LH LV LZ LW StX LD
open K23D (DK Dk St)
open K23S (fr cv hv headV used In flds)
/-! ### the store's methods -/
def blk (f : Nat → List Int) (k : Nat) : List Int := f (4 * k) ++ f (4 * k + 1) ++ f (4 * k + 2) ++ f (4 * k + 3)
def fre (k : Sk) (d : Sd) : Int := ((fr d.cs k.hs false).length : Int)
def cont (k : Sk) (d : Sd) (i : Nat) : List Int := match d.mem i with
  | some ws => ws
  | none => blk k.f i
def Fm (H H1 : Hp) (q : Addr) (k : Sk) : Prop := ∀ a o, H a = some o → a ≠ q → a ≠ k.cl → a ≠ k.m → H1 a = some o
def newB (k : Sk) (d : Sd) (i : Nat) : Bool := (decide (cv d.cs i > 0) && !hv k.hs i) && decide (cv d.cs i = 1)
def okB (xs : List V) : Prop := ∃ ws : List Int, xs = ws.map V.int ∧ ws.length = 32 ∧ ∀ z ∈ ws, 0 ≤ z
def spRb (C : Addr) : Sp := fun vs H Q _ => ∃ G p ka sa wa n f, ∃ i : Nat, vs = [.ref p, .int (i : Int)] ∧ DK C G H p ka sa wa n ⟨f, [], true, none⟩ ∧ i < n ∧ RetL ((blk f i).map V.int) H Q
def spGen (c : Cc) : Sp := fun vs H Q _ => ∃ G q k d, vs = [.ref q] ∧ ST c G H q k d ∧ RetV (.int (k.g + 1)) H Q
def spFree (c : Cc) : Sp := fun vs H Q _ => ∃ G q k d, vs = [.ref q] ∧ ST c G H q k d ∧ RetV (.int (fre k d)) H Q
def spReq (c : Cc) (CE : Addr) : Sp := fun vs H Q E => ∃ G q k d many, vs = [.ref q, .int many] ∧ ST c G H q k d ∧ (many + d.r ≤ fre k d → RetV .non H Q) ∧ (fre k d < many + d.r → ∀ H', Ex H H' → E (.ref CE) none H')
def spRead (c : Cc) (CN : Addr) : Sp := fun vs H Q E => ∃ G q k d t z xs, vs = [.ref q, .ref t] ∧ ST c G H q k d ∧ H t = some (.tup (.int z :: xs)) ∧ (∀ i : Nat, z = (i : Int) → 5 ≤ i → i < k.n → RetL ((cont k d i).map V.int) H Q) ∧ (¬ (5 ≤ z ∧ z < k.n) → ∀ H', Ex H H' → E (.ref CN) none H')
def spNp (c : Cc) (CE : Addr) : Sp := fun vs H Q E => ∃ G q k d, vs = [.ref q] ∧ ST c G H q k d ∧ (1 + d.r ≤ fre k d → ∀ v, headV (fr d.cs k.hs false) = v → ∀ t H', H t = none → Ex H H' → H' t = some (.tup [v, .int (k.g + 1)]) → Q (.ref t) H') ∧ (fre k d < 1 + d.r → ∀ H', Ex H H' → E (.ref CE) none H')
def spNew (c : Cc) (CN : Addr) : Sp := fun vs H Q E => ∃ G q k d t z xs, vs = [.ref q, .ref t] ∧ ST c G H q k d ∧ H t = some (.tup (.int z :: xs)) ∧ (∀ i : Nat, z = (i : Int) → i < k.n → RetV (.bl (newB k d i)) H Q) ∧ (¬ (0 ≤ z ∧ z < k.n) → ∀ H', Ex H H' → E (.ref CN) none H')
def spUses (c : Cc) (CN : Addr) : Sp := fun vs H Q E => ∃ G q k d t z xs, vs = [.ref q, .ref t] ∧ ST c G H q k d ∧ H t = some (.tup (.int z :: xs)) ∧ (∀ i : Nat, z = (i : Int) → i < k.n → RetV (.int (cv d.cs i)) H Q) ∧ (¬ (0 ≤ z ∧ z < k.n) → ∀ H', Ex H H' → E (.ref CN) none H')
def spUr (c : Cc) : Sp := fun vs H Q _ => ∃ G q k d r, vs = [.ref q, .int r] ∧ ST c G H q k d ∧ ∀ H1, Fm H H1 q k → ST c G H1 q k { d with r := r } → Q .non H1
def spShare (c : Cc) (CN : Addr) : Sp := fun vs H Q E => ∃ G q k d t z xs, vs = [.ref q, .ref t] ∧ ST c G H q k d ∧ H t = some (.tup (.int z :: xs)) ∧ (∀ i : Nat, z = (i : Int) → i < k.n → 5 ≤ i → cv d.cs i ≠ 0 → ∀ H1, Fm H H1 q k → ST c G H1 q k { d with cs := d.cs.set i (cv d.cs i + 1) } → Q .non H1) ∧ (¬ (0 ≤ z ∧ z < k.n ∧ 5 ≤ z ∧ cv d.cs z.toNat ≠ 0) → ∀ H', Ex H H' → E (.ref CN) none H')
def dropD (d : Sd) (i : Nat) : Sd := { d with cs := d.cs.set i (cv d.cs i + -1), mem := if cv d.cs i - 1 = 0 then setM d.mem i none else d.mem }
def spDrop (c : Cc) (CN : Addr) : Sp := fun vs H Q E => ∃ G q k d t z xs, vs = [.ref q, .ref t] ∧ ST c G H q k d ∧ H t = some (.tup (.int z :: xs)) ∧ (∀ i : Nat, z = (i : Int) → i < k.n → 5 ≤ i → cv d.cs i ≠ 0 → ∀ H1, Fm H H1 q k → ST c G H1 q k (dropD d i) → Q (.int (cv d.cs i - 1)) H1) ∧ (¬ (0 ≤ z ∧ z < k.n ∧ 5 ≤ z ∧ cv d.cs z.toNat ≠ 0) → ∀ H', Ex H H' → E (.ref CN) none H')
def spMake (c : Cc) (CN CE Pw : Addr) : Sp := fun vs H Q E => ∃ G q k d u xs, vs = [.ref q, .ref u] ∧ ST c G H q k d ∧ H u = some (.lst xs) ∧ (∀ x ∈ xs, ∃ n, K23D.Kd H x n) ∧ Tab H Pw ∧ 0 ≤ d.r ∧ u ≠ k.cl ∧ (¬ okB xs → ∀ H', Ex H H' → E (.ref CN) none H') ∧ (okB xs → fre k d ≤ d.r → ∀ H', Ex H H' → E (.ref CE) none H') ∧
  (∀ (ws : List Int) (i : Nat), xs = ws.map V.int → ws.length = 32 → (∀ z ∈ ws, 0 ≤ z) → d.r < fre k d → headV (fr d.cs k.hs false) = .int (i : Int) → i < k.n → ∀ G' H1 t, St G H G' H1 → Fm H H1 q k → ST c G' H1 q k { d with cs := d.cs.set i 1, mem := setM d.mem i (some ws) } → H t = none → G' t = some (.tup [.int (i : Int), .int (k.g + 1)]) → Q (.ref t) H1)
def spWrite (c : Cc) (CN Pw : Addr) : Sp := fun vs H Q E => ∃ G q k d t z ys u xs, vs = [.ref q, .ref t, .ref u] ∧ ST c G H q k d ∧ H t = some (.tup (.int z :: ys)) ∧ H u = some (.lst xs) ∧ (∀ x ∈ xs, ∃ n, K23D.Kd H x n) ∧ Tab H Pw ∧ (¬ (0 ≤ z ∧ z < k.n ∧ newB k d z.toNat = true ∧ okB xs) → ∀ H', Ex H H' → E (.ref CN) none H') ∧
  (∀ (ws : List Int) (i : Nat), xs = ws.map V.int → ws.length = 32 → (∀ z ∈ ws, 0 ≤ z) → z = (i : Int) → i < k.n → newB k d i = true → ∀ G' H1, St G H G' H1 → Fm H H1 q k → ST c G' H1 q k { d with mem := setM d.mem i (some ws) } → Q .non H1)
def memL (k : Sk) (d : Sd) : List Nat := (List.range k.n).filter fun i => (d.mem i).isSome
def spNb (c : Cc) : Sp := fun vs H Q _ => ∃ G q k d, vs = [.ref q] ∧ ST c G H q k d ∧ (memL k d).length < 64 ∧ RetL ((memL k d).map fun i : Nat => V.int (i : Int)) H Q
def tno : ∀ {dp hp sp tb m : Addr} {r : Int} {x : Str}, x = "generation" ∨ x = "free" ∨ x = "require" ∨ x = "is_new" ∨ x = "read" ∨ x = "make" ∨ x = "write" ∨ x = "share" ∨ x = "drop" ∨ x = "uses" ∨ x = "next_pointer" ∨ x = "new_blocks" ∨ x = "use_reserve" → (sfl dp hp sp tb r m).lookup x = Option.none := fun h => by
  rcases h with rfl | rfl | rfl | rfl | rfl | rfl | rfl | rfl | rfl | rfl | rfl | rfl | rfl <;> exact t_no ⟨by decide +kernel, by decide +kernel, by decide +kernel, by decide +kernel, by decide +kernel, by decide +kernel⟩
theorem sno : ∀ {n : Int} {cl hl : Addr} {x : Str}, x = "free" ∨ x = "least_free" ∨ x = "take" ∨ x = "is_new" ∨ x = "uses" ∨ x = "share" ∨ x = "drop" → (flds n cl hl).lookup x = Option.none := fun h => by
  rcases h with rfl | rfl | rfl | rfl | rfl | rfl | rfl <;> exact K23S.fl_no _ _ _ ⟨by decide +kernel, by decide +kernel, by decide +kernel⟩
section
variable {K : PySem.W.Frag} {σ : L2.St} {H : Hp} {ta te : TE} {D : Ends}
theorem s_ext {l : Addr} {xs ys : List V} (hl : H l = some (.lst xs)) (ha : Ev ta σ H (.ref l)) (h : EvL te σ H ys) (hz : xs.length + ys.length ≤ 100000) (k : ∀ H1, Ex H H1 → D.nx σ (upd H1 l (.lst (xs ++ ys)))) :
    tDrop (tBM K "list" rExtend ta (tCons te tNil)) D σ H := ha H (Ex.refl H) _ fun H1 e1 =>
  ⟨Or.inl ⟨rfl, xs, sq_of (e1 l _ hl)⟩, h H1 e1 _ fun p H2 hp e2 h2 => ⟨l, p, xs, ys, rfl, rfl, e2 l _ (e1 l _ hl), h2, sz_of hz, k H2 (e1.trans e2)⟩⟩
end
section
variable {c : Cc} {G H H1 : Hp} {q : Addr} {k : Sk} {d : Sd}
theorem sv_gen (s : ST c G H q k d) : SpV (spGen c) [.ref q] H (.int (k.g + 1)) := fun H1 e1 Q qq E => ⟨G, q, k, d, rfl, s.ex e1, qq⟩
theorem sv_free (s : ST c G H q k d) : SpV (spFree c) [.ref q] H (.int (fre k d)) := fun H1 e1 Q qq E => ⟨G, q, k, d, rfl, s.ex e1, qq⟩
theorem fre_le (s : ST c G H q k d) : fre k d ≤ 256 := by
  have h1 := K23S.fr_len d.cs k.hs false
  have h2 := s.lc
  have h3 := s.dk.n1
  unfold fre
  omega
theorem Fm.of (e : Ex H H1) : Fm H H1 q k := fun a o h _ _ _ => e _ _ h
theorem st_spu (s : ST c G H q k d) : ∃ dx, H k.sp = some (.ins c.S dx (flds k.n k.cl k.hl)) := by
  obtain ⟨dx, h⟩ := s.s
  exact ⟨dx, s.dk.g _ _ h⟩
end
section
variable {P : Program} {w : World} {K : PySem.W.Frag} {mg : Str → Option Value} {base : Heap} {c : Cc} {CN CO CE Pw : Addr}
theorem ok_rb {f fR : Addr} {fd fdR : FuncData} (F : Fun K "read_block" "read_block" sRb f fd) (GD_read : FnOk P w K mg base (L2.CX P w) 3 fR fdR ["self", "sector"] (K23D.spRead c.D CN CO)) (bD_read : Binds K fdR ["self", "sector"] []) (mD_read : Meth K c.D "read" fR) (T : Txt mg) (TD : K23D.Txt mg K c.D) : FnOk P w K mg base (L2.CX P w) 4 f fd ["disk", "number"] (spRb c.D) := by
  obtain ⟨_, gBLOCK_SECTORS⟩ := T.gBLOCK_SECTORS
  refine F.okX scRb (fun vs H Q E h => ?_) (fun cdv A outer s H vs Q E hr h => ?_)
  · obtain ⟨G, p, ka, sa, wa, n, f, i, rfl, _⟩ := h
    rfl
  · obtain ⟨G, p, ka, sa, wa, n, f, i, rfl, D, hi, q⟩ := h
    refine ⟨_, (pss_cons (ps_set (i := 2) scRb.nd rfl (Or.inl rfl) (pe_lst pa_nil))
      (pss_cons (ps_for (passes_of rfl) rfl (pi_range1 (by rfl) T.range (pa_cons (pe_glob (v := .int 4) rfl gBLOCK_SECTORS ⟨_, rfl⟩) pa_nil)) (pg_name (i := 3) scRb.nd rfl (Or.inl rfl)) (pss_one (ps_expr (pe_bm PySem.F.plainAttrs_list PySem.F.slot_list_extend PySem.F.type_list_extend mt_extend (pv 2) (pa_cons (pe_meth (pv 0) TD.cl mD_read GD_read (hr.mono (by decide)) bD_read .nil (pass_own (takes_of rfl rfl rfl rfl)) (pa_cons (pe_op op_add (pe_op op_mul (pe_glob (v := .int 4) rfl gBLOCK_SECTORS ⟨_, rfl⟩) (pv 1)) (pv 3)) pa_nil)) pa_nil)))))
      (pss_one (ps_ret (pv 2))))), ?_⟩
    obtain ⟨a1, a2, a3, a4⟩ := D.al
    refine q_asgL (el_lst ea_nil (by decide)) fun wl H1 hw e1 h1 => ?_
    have np : wl ≠ p ∧ wl ≠ ka ∧ wl ≠ sa ∧ wl ≠ wa := ⟨fun z => a1 (by rw [← z]; exact hw), fun z => a2 (by rw [← z]; exact hw), fun z => a3 (by rw [← z]; exact hw), fun z => a4 (by rw [← z]; exact hw)⟩
    refine q_forR1 (n := 4) (ea_cons ev_c ea_nil) ⟨by decide, by decide⟩ (fun j σ' B => ∃ y, σ' = [some (.ref p), some (.int (i : Int)), some (.ref wl), y] ∧ Ex H B ∧ DK c.D G B p ka sa wa n ⟨f, [], true, none⟩ ∧ B wl = some (.lst (((List.range j).flatMap fun x => f (4 * i + x)).map V.int)) ∧ ((List.range j).flatMap fun x => f (4 * i + x)).length = 8 * j) (fun B eB => ⟨none, rfl, e1.trans eB, D.ex (e1.trans eB), eB _ _ h1, rfl⟩) ?_ ?_
    · rintro j σ' B hj ⟨y, rfl, eB, DB, hB, hln⟩
      obtain ⟨dx, ho⟩ := DB.o
      have h8 := DB.kz (4 * i + j)
      refine s_ext (ys := (f (4 * i + j)).map V.int) hB (ev_var rfl) (el_meth (vs := [.int (4 * (i : Int) + j)]) (ev_var rfl) ho (K23D.d_no ⟨by decide +kernel, by decide +kernel, by decide +kernel, by decide +kernel, by decide +kernel, by decide +kernel⟩) (ea_cons (ev_op (ev_op ev_c (ev_var rfl) (rv_I (.inl ⟨by decide, by decide⟩))) (ev_var rfl) rv_I0) ea_nil) (fun B1 b1 Q' q' E' => ⟨G, p, ka, sa, wa, n, _, 4 * (i : Int) + j, rfl, DB.ex b1, fun _ s hs hs4 => by
        have : s = 4 * i + j := by omega
        subst this
        exact q', fun h => (by cases h), fun _ hno => absurd ⟨by omega, by omega⟩ hno⟩)) (by
        rw [List.length_map, List.length_map, hln]
        have h8' : (f (4 * i + j)).length = 8 := h8
        omega) fun B1 b1 => ⟨_, rfl, (eB.trans b1).mut hw, dk_bx (DB.ex b1) (fresh_back D.g hw) np (Bx.of (Ex.refl _)).up, ?_, ?_⟩
      · rw [upd_same, List.range_succ, List.flatMap_append, List.map_append]
        simp
      · rw [List.range_succ, List.flatMap_append, List.length_append, hln]
        have h8' : (f (4 * i + j)).length = 8 := h8
        simp [h8']
        omega
    · rintro σ' B ⟨y, rfl, eB, DB, hB, _⟩
      refine s_ret (ev_var rfl) fun B1 b1 => q wl B1 hw (eB.trans b1) ?_
      rw [b1 _ _ hB]
      unfold blk
      simp [List.range_succ]
theorem ok_gen {f : Addr} {fd : FuncData} (F : Fun K "generation" "Store.generation" sGen f fd) (TT : TxT mg K c.T) (TH : TxH mg K c.H) : FnOk P w K mg base CX0 1 f fd ["self"] (spGen c) := by
  refine F.ok scGen (fun vs H Q E h => ?_) (fun cdv A outer s H vs Q E hr h => ?_)
  · obtain ⟨G, q, k, d, rfl, _⟩ := h
    rfl
  · obtain ⟨G, q, k, d, rfl, S, qq⟩ := h
    refine ⟨_, (pss_one (ps_ret (pe_op op_add (pe_fld (pe_fld (pv 0) rfl) rfl) pe_int))), ?_⟩
    obtain ⟨dx, ho⟩ := S.o
    obtain ⟨dh, hh⟩ := S.h
    exact s_ret (ev_op (ev_fld (ev_fld (ev_var rfl) ho TT.cl TT.nh t_h) (S.dk.g _ _ hh) TH.cl TH.ng rfl) ev_c rv_I0) qq
theorem ok_free {f fF : Addr} {fd fdF : FuncData} (F : Fun K "free" "Store.free" sFree f fd) (GSfree : FnOk P w K mg base CX0 2 fF fdF ["self"] (K23S.spSelf c.S fun cs hs => .int ((fr cs hs false).length : Nat))) (bSfree : Binds K fdF ["self"] []) (mSfree : Meth K c.S "free" fF) (TT : TxT mg K c.T) (TS : K23S.Txt mg K c.S) : FnOk P w K mg base CX0 3 f fd ["self"] (spFree c) := by
  refine F.ok scFree (fun vs H Q E h => ?_) (fun cdv A outer s H vs Q E hr h => ?_)
  · obtain ⟨G, q, k, d, rfl, _⟩ := h
    rfl
  · obtain ⟨G, q, k, d, rfl, S, qq⟩ := h
    refine ⟨_, (pss_one (ps_ret (pe_meth0 (pe_fld (pv 0) rfl) TS.cl mSfree GSfree (hr.mono (by decide)) bSfree .nil pass0))), ?_⟩
    obtain ⟨dx, ho⟩ := S.o
    obtain ⟨ds, hs⟩ := st_spu S
    exact s_ret (ev_meth0 (ev_fld (ev_var rfl) ho TT.cl TT.ns t_s) hs (sno (.inl rfl)) (K23S.sv_self (f := fun cs hs => .int ((fr cs hs false).length : Nat)) S.sp)) qq
theorem ok_req {f fF : Addr} {fd fdF : FuncData} (F : Fun K "require" "Store.require" sReq f fd) (Gfree : FnOk P w K mg base CX0 3 fF fdF ["self"] (spFree c)) (bfree : Binds K fdF ["self"] []) (mfree : Meth K c.T "free" fF) (TT : TxT mg K c.T) (XS : Xc K mg "NoSpace" CE) : FnOk P w K mg base (L2.CX P w) 4 f fd ["self", "many"] (spReq c CE) := by
  refine F.okX scReq (fun vs H Q E h => ?_) (fun cdv A outer s H vs Q E hr h => ?_)
  · obtain ⟨G, q, k, d, many, rfl, _⟩ := h
    rfl
  · obtain ⟨G, q, k, d, many, rfl, S, qq, qE⟩ := h
    refine ⟨_, (pss_one (ps_if (pt_cmpR op_lt (pe_meth0 (pv 0) TT.cl mfree Gfree (hr.mono (by decide)) bfree .nil pass0) (pe_op op_add (pv 1) (pe_fld (pv 0) rfl)) (nomark _)) (pss_one (ps_raise0 rfl XS (takes_of rfl rfl rfl rfl) (by rfl))) pss_nil)), ?_⟩
    obtain ⟨dx, ho⟩ := S.o
    exact s_when (et_test (ev_op (ev_meth0 (ev_var rfl) ho (tno (.inr (.inl rfl))) (sv_free S)) (ev_op (ev_var rfl) (ev_fld (ev_var rfl) ho TT.cl TT.nr t_r) rv_I0) rv_I0)) (fun hb H1 e1 => qE (of_decide_eq_true hb) H1 e1) (fun hb H1 e1 => qq (by have := of_decide_eq_false hb; omega) H1 e1)
end

end K23

set_option Elab.async false
set_option linter.all false
set_option maxRecDepth 100000
set_option maxHeartbeats 4000000
namespace K23
open PySem PySem.Spec PyProof.Rows L2 Evl LK LT LG LS LQ LX LO LN LP LH LV LZ LW StX LD
open K23D (DK Dk St)
open K23S (fr cv hv headV used In flds)
section
variable {K : PySem.W.Frag} {σ : L2.St} {H : Hp} {ta te td tk : TE} {D : Ends} {tz : TS}
theorem el_listT {p : Addr} {xs : List V} (ha : Ev ta σ H (.ref p)) (h : SqT K H p xs) : EvL (tCB (rListS K) (tCons ta tNil)) σ H xs := fun H1 e Q q =>
  ha H1 e _ fun H2 e2 => ⟨p, xs, rfl, Or.inr (ex_t (e.trans e2) h), fun l hl => q l _ (fresh_back e2 hl) (e2.trans (Ex.new hl)) upd_same⟩
theorem q_dputU {d : Addr} {kvs : List (Key × V)} {z : Int} {xs : List V} (hv : EvU te σ H xs) (hd : Ev td σ H (.ref d)) (hk : Ev tk σ H (.int z)) (h : H d = some (.dK kvs)) (hl : kvs.length < 100000) (k : ∀ p H1, H p = none → Ex H H1 → H1 p = some (.tup xs) → tz D σ (upd H1 d (.dK (putK kvs (.inl z) (.ref p))))) : tSeq (sDPut td tk te) tz D σ H := s_dputU (D := { D with nx := tz D }) hv hd hk h hl k
theorem eu_tupV {p : Addr} {xs : List V} (h : Ev te σ H (.ref p)) (hx : H p = some (.lst xs)) : EvU (tCB (fun zs H Q => ∃ p ys, zs = [.ref p] ∧ ((SqL K H p ys ∧ ∀ l, H l = none → Q (.ref l) (upd H l (.tup ys))) ∨ (SqT K H p ys ∧ Q (.ref p) H))) (tCons te tNil)) σ H xs := fun H1 e Q q =>
  h H1 e _ fun H2 e2 => ⟨p, xs, rfl, .inl ⟨sq_of ((e.trans e2) _ _ hx), fun l hl => q l _ (fresh_back e2 hl) (e2.trans (Ex.new hl)) upd_same⟩⟩
end
section
variable {c : Cc} {G G1 H H1 H2 : Hp} {q : Addr} {k : Sk} {d d1 : Sd}
theorem al_of (f : Fm H H1 q k) (s1 : ST c G1 H1 q k d1) : ∀ a, H a ≠ none → H1 a ≠ none := fun a ha z => by
  obtain ⟨a1, a2, a3⟩ := s1.al
  cases ho : H a with
  | none => exact ha ho
  | some o =>
    by_cases e1 : a = q
    · exact a1 (by rw [← e1]; exact z)
    · by_cases e2 : a = k.cl
      · exact a2 (by rw [← e2]; exact z)
      · by_cases e3 : a = k.m
        · exact a3 (by rw [← e3]; exact z)
        · rw [f a o ho e1 e2 e3] at z
          cases z
theorem st_of' (f : Fm H H1 q k) (s1 : ST c G H1 q k d1) : St G H G H1 := ⟨Ex.refl _, fun _ _ h => h, al_of f s1⟩
theorem Fm.trans (f : Fm H H1 q k) (g : Fm H1 H2 q k) : Fm H H2 q k := fun a o h n1 n2 n3 => g a o (f a o h n1 n2 n3) n1 n2 n3
theorem Fm.cl {o : HO} (e : Ex H H1) (e2 : Ex (upd H1 k.cl o) H2) : Fm H H2 q k := fun a u h _ n2 _ => e2 _ _ (by rw [upd_ne n2]; exact e _ _ h)
theorem Fm.mm {o : HO} (e : Ex H H1) : Fm H (upd H1 k.m o) q k := fun a u h _ _ n3 => by rw [upd_ne n3]; exact e _ _ h
theorem Fm.qq {o : HO} (e : Ex H H1) : Fm H (upd H1 q o) q k := fun a u h n1 _ _ => by rw [upd_ne n1]; exact e _ _ h
theorem St.of {G H H1 : Hp} (e : Ex H H1) : St G H G H1 := ⟨Ex.refl _, fun _ _ h => h, fun a h z => h (fresh_back e z)⟩
theorem mem_val (s : ST c G H q k d) {kvs : List (Key × V)} (hm : Mem G k.n kvs d.mem) (i : Nat) : (d.mem i = none ∧ valV kvs (.inl (i : Int)) = none ∧ cont k d i = blk k.f i) ∨ ∃ ws t, d.mem i = some ws ∧ valV kvs (.inl (i : Int)) = some (.ref t) ∧ H t = some (.tup (ws.map V.int)) ∧ cont k d i = ws := by
  rcases hm.v i with ⟨a, b⟩ | ⟨ws, t, a, b, e⟩
  · refine .inl ⟨a, b, ?_⟩
    unfold cont
    rw [a]
  · refine .inr ⟨ws, t, a, b, s.dk.g _ _ e, ?_⟩
    unfold cont
    rw [a]
theorem wd_okB {xs : List V} : (decide ((xs.length : Int) = 32) && xs.all K23D.wd) = true ↔ okB xs := by
  rw [Bool.and_eq_true_iff, decide_eq_true_eq]
  constructor
  · rintro ⟨h1, h2⟩
    obtain ⟨ws, rfl, hw⟩ := K23D.okW_ints h2
    exact ⟨ws, rfl, by rw [List.length_map] at h1; omega, hw⟩
  · rintro ⟨ws, rfl, h1, h2⟩
    exact ⟨by rw [List.length_map, h1]; rfl, K23D.ints_wd h2⟩
end
section
variable {P : Program} {w : World} {K : PySem.W.Frag} {mg : Str → Option Value} {base : Heap} {c : Cc} {CN CO CE Pw : Addr}
theorem ok_sread {f fW fR : Addr} {fd fdW fdR : FuncData} (F : Fun K "read" "Store.read" sRead f fd) (FW : Fun K "is_word" "is_word" K23D.sIw fW fdW) (bW : Binds K fdW ["value"] []) (gW : mg "is_word" = some (.ref fW)) (FRb : Fun K "read_block" "read_block" sRb fR fdR) (GRb : FnOk P w K mg base (L2.CX P w) 4 fR fdR ["disk", "number"] (spRb c.D)) (bRb : Binds K fdR ["disk", "number"] []) (gRb : mg "read_block" = some (.ref fR)) (T : Txt mg) (TT : TxT mg K c.T) (TS : K23S.Txt mg K c.S) (TD : K23D.Txt mg K c.D) (XN : Xc K mg "NotValid" CN) : FnOk P w K mg base (L2.CX P w) 5 f fd ["self", "pointer"] (spRead c CN) := by
  have GW : FnOk P w K mg base CX0 1 fW fdW ["value"] K23D.spIw := K23D.ok_iw FW TD
  obtain ⟨_, gFIRST_BLOCK⟩ := T.gFIRST_BLOCK
  refine F.okX scRead (fun vs H Q E h => ?_) (fun cdv A outer s H vs Q E hr h => ?_)
  · obtain ⟨G, q, k, d, t, z, xs, rfl, _⟩ := h
    rfl
  · obtain ⟨G, q, k, d, t, z, xs, rfl, S, ht, qq, qE⟩ := h
    refine ⟨_, (pss_cons (ps_set (i := 2) scRead.nd rfl (Or.inl rfl) (pe_ix ix_tup (pv 1) pe_int (fun _ _ => rfl)))
      (pss_cons (ps_if (PW.pt (pw_or (pt_not (pt_val (pe_call GW (hr.mono (by decide)) (by rfl) gW FW.kp bW .nil pass0 (pa_cons (pv 2) pa_nil)))) (pw_or1 (pt_not (pt_chain op_le op_lt (pe_glob (v := .int 5) rfl gFIRST_BLOCK ⟨_, rfl⟩) (pv 2) (pe_fld (pe_fld (pv 0) rfl) rfl)))))) (pss_one (ps_raise0 rfl XN (takes_of rfl rfl rfl rfl) (by rfl))) pss_nil)
      (pss_cons (ps_if (pt_cmp (pc_din (hu_of hr) (pv 2) (pe_fld (pv 0) rfl))) (pss_one (ps_ret (pe_callTy call_list_of (by rfl) T.list (by decide +kernel) (pa_cons (pe_dget (hu_of hr) (pe_fld (pv 0) rfl) (pv 2) (fun _ _ => rfl)) pa_nil)))) pss_nil)
      (pss_one (ps_ret (pe_call GRb (hr.mono (by decide)) (by rfl) gRb FRb.kp bRb .nil (pass_own (takes_of rfl rfl rfl rfl)) (pa_cons (pe_fld (pv 0) rfl) (pa_cons (pv 2) pa_nil)))))))), ?_⟩
    obtain ⟨dx, ho⟩ := S.o
    obtain ⟨ds, hs⟩ := st_spu S
    refine q_asg (ev_op (ev_var rfl) ev_c (rv_ixT (st_of ht) (v := .int z) (atI_nat (j := 0) rfl))) fun H1 e1 => ?_
    refine q_when (b := !(decide (0 ≤ z) && (decide (5 ≤ z) && decide (z < k.n)))) (et_is (et_or (et_not (et_B (ev_call (vs := [.int z]) (ea_cons (ev_var rfl) ea_nil) (K23D.sv_iw (.int z))))) (fun _ => et_not (et_chain ev_c (ev_var rfl) (ev_fld (ev_fld (ev_var rfl) (e1 _ _ ho) TT.cl TT.ns t_s) (e1 _ _ hs) TS.cl TS.nB (K23S.fl_b _ _ _))))) (by
      show (!decide (0 ≤ z) || !(decide (5 ≤ z) && decide (z < (k.n : Int)))) = !(decide (0 ≤ z) && (decide (5 ≤ z) && decide (z < (k.n : Int))))
      cases decide (0 ≤ z) <;> rfl)) (fun hb H2 e2 => qE (fun h => by
      rw [decide_eq_true (show 0 ≤ z by omega), decide_eq_true h.1, decide_eq_true h.2] at hb
      cases hb) H2 (e1.trans e2)) (fun hb H2 e2 => ?_)
    have hz : 5 ≤ z ∧ z < k.n := by
      simp at hb
      omega
    obtain ⟨i, rfl⟩ := Int.eq_ofNat_of_zero_le (show 0 ≤ z by omega)
    have hi : i < k.n := by omega
    obtain ⟨kvs, hm, hM⟩ := S.mm
    have e12 := e1.trans e2
    have qq := qq i rfl (by omega) hi
    rcases mem_val S hM i with ⟨a, b, hc⟩ | ⟨ws, tt, a, b, hh, hc⟩
    · refine q_when (b := false) (et_is (et_B (ev_dIn (ev_var rfl) (ev_fld (ev_var rfl) (e12 _ _ ho) TT.cl TT.nm t_m) (e12 _ _ hm))) (by rw [b]; rfl)) (fun h => by cases h) (fun _ H3 e3 => ?_)
      rw [hc] at qq
      have e13 := e12.trans e3
      exact s_retL (el_call (vs := [.ref k.dp, .int (i : Int)]) (ea_cons (ev_fld (ev_var rfl) (e13 _ _ ho) TT.cl TT.nd t_d) (ea_cons (ev_var rfl) ea_nil)) (fun H4 e4 Q' q' E' => ⟨G, k.dp, k.ka, k.sa, k.wa, k.n, k.f, i, rfl, S.dk.ex (e13.trans e4), hi, q'⟩)) fun l H4 hl e4 h4 => qq l H4 (fresh_back e13 hl) (e13.trans e4) h4
    · refine q_when (b := true) (et_is (et_B (ev_dIn (ev_var rfl) (ev_fld (ev_var rfl) (e12 _ _ ho) TT.cl TT.nm t_m) (e12 _ _ hm))) (by rw [b]; rfl)) (fun _ H3 e3 => ?_) (fun h => by cases h)
      rw [hc] at qq
      have e13 := e12.trans e3
      exact s_retL (el_listT (ev_dget (ev_fld (ev_var rfl) (e13 _ _ ho) TT.cl TT.nm t_m) (ev_var rfl) (e13 _ _ hm) b) (st_of (e13 _ _ hh))) fun l H4 hl e4 h4 => qq l H4 (fresh_back e13 hl) (e13.trans e4) h4
theorem ok_np {f fQ fL fG : Addr} {fd fdQ fdL fdG : FuncData} (F : Fun K "next_pointer" "Store.next_pointer" sNp f fd) (Greq : FnOk P w K mg base (L2.CX P w) 4 fQ fdQ ["self", "many"] (spReq c CE)) (breq : Binds K fdQ ["self", "many"] []) (mreq : Meth K c.T "require" fQ) (Grequire : FnOk P w K mg base (L2.CX P w) 4 fQ fdQ ["self", "many"] (spReq c CE)) (brequire : Binds K fdQ ["self", "many"] []) (mrequire : Meth K c.T "require" fQ) (GSleast_free : FnOk P w K mg base CX0 5 fL fdL ["self"] (K23S.spSelf c.S fun cs hs => headV (fr cs hs false))) (bSleast_free : Binds K fdL ["self"] []) (mSleast_free : Meth K c.S "least_free" fL) (Ggeneration : FnOk P w K mg base CX0 1 fG fdG ["self"] (spGen c)) (bgeneration : Binds K fdG ["self"] []) (mgeneration : Meth K c.T "generation" fG) (TT : TxT mg K c.T) (TS : K23S.Txt mg K c.S) : FnOk P w K mg base (L2.CX P w) 6 f fd ["self"] (spNp c CE) := by
  refine F.okX scNp (fun vs H Q E h => ?_) (fun cdv A outer s H vs Q E hr h => ?_)
  · obtain ⟨G, q, k, d, rfl, _⟩ := h
    rfl
  · obtain ⟨G, q, k, d, rfl, S, qq, qE⟩ := h
    refine ⟨_, (pss_cons (ps_expr (pe_meth (pv 0) TT.cl mrequire Grequire (hr.mono (by decide)) brequire .nil (pass_own (takes_of rfl rfl rfl rfl)) (pa_cons pe_int pa_nil)))
      (pss_one (ps_ret (pe_tup (pa_cons (pe_meth0 (pe_fld (pv 0) rfl) TS.cl mSleast_free GSleast_free (hr.mono (by decide)) bSleast_free .nil pass0) (pa_cons (pe_meth0 (pv 0) TT.cl mgeneration Ggeneration (hr.mono (by decide)) bgeneration .nil pass0) pa_nil)))))), ?_⟩
    obtain ⟨dx, ho⟩ := S.o
    refine q_m (ev_var rfl) ho (tno (.inr (.inr (.inl rfl)))) (ea_cons ev_c ea_nil) fun H1 e1 => ⟨G, q, k, d, 1, rfl, S.ex e1, fun hle H2 e2 => ?_, fun hlt H2 e2 => qE hlt H2 (e1.trans e2)⟩
    have e12 := e1.trans e2
    have S2 := S.ex e12
    obtain ⟨ds, hs⟩ := st_spu S2
    exact s_retU (eu_tup (ea_cons (ev_meth0 (ev_fld (ev_var rfl) (e12 _ _ ho) TT.cl TT.ns t_s) hs (sno (.inr (.inl rfl))) (K23S.sv_self (f := fun cs hs => headV (fr cs hs false)) S2.sp)) (ea_cons (ev_meth0 (ev_var rfl) (e12 _ _ ho) (tno (.inl rfl)) (sv_gen S2)) ea_nil)) (Nat.le_of_ble_eq_true rfl)) fun t H3 ht e3 h3 => qq hle _ rfl t H3 (fresh_back e12 ht) (e12.trans e3) h3
theorem ok_snew {f fN fU : Addr} {fd fdN fdU : FuncData} (F : Fun K "is_new" "Store.is_new" sNew f fd) (GSis_new : FnOk P w K mg base (L2.CX P w) 4 fN fdN ["self", "block"] (K23S.spAt c.S CN K23S.always fun cs hs k => .bl (decide (cv cs k > 0) && !hv hs k))) (bSis_new : Binds K fdN ["self", "block"] []) (mSis_new : Meth K c.S "is_new" fN) (GSuses : FnOk P w K mg base (L2.CX P w) 3 fU fdU ["self", "block"] (K23S.spAt c.S CN K23S.always fun cs _ k => .int (cv cs k))) (bSuses : Binds K fdU ["self", "block"] []) (mSuses : Meth K c.S "uses" fU) (TT : TxT mg K c.T) (TS : K23S.Txt mg K c.S) : FnOk P w K mg base (L2.CX P w) 5 f fd ["self", "pointer"] (spNew c CN) := by
  refine F.okX scNew (fun vs H Q E h => ?_) (fun cdv A outer s H vs Q E hr h => ?_)
  · obtain ⟨G, q, k, d, t, z, xs, rfl, _⟩ := h
    rfl
  · obtain ⟨G, q, k, d, t, z, xs, rfl, S, ht, qq, qE⟩ := h
    refine ⟨_, (pss_cons (ps_set (i := 2) scNew.nd rfl (Or.inl rfl) (pe_ix ix_tup (pv 1) pe_int (fun _ _ => rfl)))
      (pss_one (ps_ret (pe_and (pe_meth (pe_fld (pv 0) rfl) TS.cl mSis_new GSis_new (hr.mono (by decide)) bSis_new .nil (pass_own (takes_of rfl rfl rfl rfl)) (pa_cons (pv 2) pa_nil)) (pe_one (pe_cmpR op_eq (pe_meth (pe_fld (pv 0) rfl) TS.cl mSuses GSuses (hr.mono (by decide)) bSuses .nil (pass_own (takes_of rfl rfl rfl rfl)) (pa_cons (pv 2) pa_nil)) pe_int (nomark _))))))), ?_⟩
    refine q_asg (ev_op (ev_var rfl) ev_c (rv_ixT (st_of ht) (v := .int z) (atI_nat (j := 0) rfl))) fun H1 e1 => ?_
    have S1 := S.ex e1
    obtain ⟨dx, ho⟩ := S1.o
    obtain ⟨ds, hs⟩ := st_spu S1
    by_cases hz : 0 ≤ z ∧ z < k.n
    · obtain ⟨i, rfl⟩ := Int.eq_ofNat_of_zero_le hz.1
      have hi : i < k.n := by omega
      have hlt : i < d.cs.length := by rw [S.lc]; exact hi
      refine s_ret (ev_is (ev_andV (ev_meth (ev_fld (ev_var rfl) ho TT.cl TT.ns t_s) hs (sno (.inr (.inr (.inr (.inl rfl))))) (ea_cons (ev_var rfl) ea_nil) (K23S.sv_uses (CN := CN) (f := fun cs hs k => .bl (decide (cv cs k > 0) && !hv hs k)) S1.sp hlt)) (fun _ => ev_op (ev_meth (ev_fld (ev_var rfl) ho TT.cl TT.ns t_s) hs (sno (.inr (.inr (.inr (.inr (.inl rfl)))))) (ea_cons (ev_var rfl) ea_nil) (K23S.sv_uses (CN := CN) (f := fun cs _ k => .int (cv cs k)) S1.sp hlt)) ev_c (rv_eq rfl))) (w := .bl (newB k d i)) (by unfold newB; simp)) fun H2 e2 => qq i rfl hi H2 (e1.trans e2)
    · refine ⟨.ref q, rfl, q, c.T, dx, _, .ref k.sp, rfl, ho, TT.cl, TT.ns, t_s, k.sp, ds, _, rfl, hs, sno (.inr (.inr (.inr (.inl rfl)))), .int z, rfl, k.sp, k.cl, k.hl, d.cs, k.hs, z, rfl, S1.sp, fun i hi hlt => absurd ⟨by omega, by have := S.lc; omega⟩ hz, fun hn H2 e2 => qE hz H2 (e1.trans e2)⟩
theorem ok_suses {f fU : Addr} {fd fdU : FuncData} (F : Fun K "uses" "Store.uses" sUses f fd) (GSuses : FnOk P w K mg base (L2.CX P w) 3 fU fdU ["self", "block"] (K23S.spAt c.S CN K23S.always fun cs _ k => .int (cv cs k))) (bSuses : Binds K fdU ["self", "block"] []) (mSuses : Meth K c.S "uses" fU) (TT : TxT mg K c.T) (TS : K23S.Txt mg K c.S) : FnOk P w K mg base (L2.CX P w) 4 f fd ["self", "pointer"] (spUses c CN) := by
  refine F.okX scUses (fun vs H Q E h => ?_) (fun cdv A outer s H vs Q E hr h => ?_)
  · obtain ⟨G, q, k, d, t, z, xs, rfl, _⟩ := h
    rfl
  · obtain ⟨G, q, k, d, t, z, xs, rfl, S, ht, qq, qE⟩ := h
    refine ⟨_, (pss_one (ps_ret (pe_meth (pe_fld (pv 0) rfl) TS.cl mSuses GSuses (hr.mono (by decide)) bSuses .nil (pass_own (takes_of rfl rfl rfl rfl)) (pa_cons (pe_ix ix_tup (pv 1) pe_int (fun _ _ => rfl)) pa_nil)))), ?_⟩
    obtain ⟨dx, ho⟩ := S.o
    obtain ⟨ds, hs⟩ := st_spu S
    exact r_m (ev_fld (ev_var rfl) ho TT.cl TT.ns t_s) hs (sno (.inr (.inr (.inr (.inr (.inl rfl)))))) (ea_cons (ev_op (ev_var rfl) ev_c (rv_ixT (st_of ht) (v := .int z) (atI_nat (j := 0) rfl))) ea_nil) fun H1 e1 => ⟨k.sp, k.cl, k.hl, d.cs, k.hs, z, rfl, (S.ex e1).sp, fun i hi hlt _ H2 e2 => qq i hi (by rw [← S.lc]; exact hlt) H2 (e1.trans e2), fun hn H2 e2 => qE (fun h => hn ⟨⟨h.1, by rw [S.lc]; exact h.2⟩, True.intro⟩) H2 (e1.trans e2)⟩
theorem ok_ur {f : Addr} {fd : FuncData} (F : Fun K "use_reserve" "Store.use_reserve" sUr f fd) (TT : TxT mg K c.T) : FnOk P w K mg base CX0 1 f fd ["self", "reserve"] (spUr c) := by
  refine F.ok scUr (fun vs H Q E h => ?_) (fun cdv A outer s H vs Q E hr h => ?_)
  · obtain ⟨G, q, k, d, r, rfl, _⟩ := h
    rfl
  · obtain ⟨G, q, k, d, r, rfl, S, qq⟩ := h
    refine ⟨_, (pss_one (ps_fld (pv 0) (pv 1) rfl)), ?_⟩
    obtain ⟨dx, ho⟩ := S.o
    refine s_fld (ev_var rfl) (ev_var rfl) ho TT.cl TT.nr (by show 6 < 1000; decide) fun H1 e1 => ?_
    rw [t_pr]
    exact qq _ (Fm.qq e1) (S.setR ho e1)
theorem ok_sshare {f fC : Addr} {fd fdC : FuncData} (F : Fun K "share" "Store.share" sShare f fd) (GSshare : FnOk P w K mg base (L2.CX P w) 4 fC fdC ["self", "block"] (K23S.spChg c.S CN 1 fun _ _ => .non)) (bSshare : Binds K fdC ["self", "block"] []) (mSshare : Meth K c.S "share" fC) (TT : TxT mg K c.T) (TS : K23S.Txt mg K c.S) : FnOk P w K mg base (L2.CX P w) 5 f fd ["self", "pointer"] (spShare c CN) := by
  refine F.okX scShare (fun vs H Q E h => ?_) (fun cdv A outer s H vs Q E hr h => ?_)
  · obtain ⟨G, q, k, d, t, z, xs, rfl, _⟩ := h
    rfl
  · obtain ⟨G, q, k, d, t, z, xs, rfl, S, ht, qq, qE⟩ := h
    refine ⟨_, (pss_one (ps_expr (pe_meth (pe_fld (pv 0) rfl) TS.cl mSshare GSshare (hr.mono (by decide)) bSshare .nil (pass_own (takes_of rfl rfl rfl rfl)) (pa_cons (pe_ix ix_tup (pv 1) pe_int (fun _ _ => rfl)) pa_nil)))), ?_⟩
    obtain ⟨dx, ho⟩ := S.o
    obtain ⟨ds, hs⟩ := st_spu S
    exact s_m (ev_fld (ev_var rfl) ho TT.cl TT.ns t_s) hs (sno (.inr (.inr (.inr (.inr (.inr (.inl rfl))))))) (ea_cons (ev_op (ev_var rfl) ev_c (rv_ixT (st_of ht) (v := .int z) (atI_nat (j := 0) rfl))) ea_nil) fun H1 e1 => ⟨k.sp, k.cl, k.hl, d.cs, k.hs, z, rfl, (S.ex e1).sp, fun i hi hlt hu H2 H3 e2 e3 => qq i hi (by rw [← S.lc]; exact hlt) (by have := hu.1; omega) (by have := hu.2; rw [hi, Int.toNat_natCast] at this; exact this) H3 (Fm.cl (e1.trans e2) e3) (S.setC (by rw [List.length_set]) (e1.trans e2) e3), fun hn H2 e2 => qE (fun h => hn ⟨⟨h.1, by rw [S.lc]; exact h.2.1⟩, h.2.2.1, h.2.2.2⟩) H2 (e1.trans e2)⟩
theorem ok_sdrop {f fC : Addr} {fd fdC : FuncData} (F : Fun K "drop" "Store.drop" sDrop f fd) (GSdrop : FnOk P w K mg base (L2.CX P w) 4 fC fdC ["self", "block"] (K23S.spChg c.S CN (-1) fun cs k => .int (cv cs k - 1))) (bSdrop : Binds K fdC ["self", "block"] []) (mSdrop : Meth K c.S "drop" fC) (TT : TxT mg K c.T) (TS : K23S.Txt mg K c.S) : FnOk P w K mg base (L2.CX P w) 5 f fd ["self", "pointer"] (spDrop c CN) := by
  refine F.okX scDrop (fun vs H Q E h => ?_) (fun cdv A outer s H vs Q E hr h => ?_)
  · obtain ⟨G, q, k, d, t, z, xs, rfl, _⟩ := h
    rfl
  · obtain ⟨G, q, k, d, t, z, xs, rfl, S, ht, qq, qE⟩ := h
    refine ⟨_, (pss_cons (ps_set (i := 2) scDrop.nd rfl (Or.inl rfl) (pe_ix ix_tup (pv 1) pe_int (fun _ _ => rfl)))
      (pss_cons (ps_set (i := 3) scDrop.nd rfl (Or.inl rfl) (pe_meth (pe_fld (pv 0) rfl) TS.cl mSdrop GSdrop (hr.mono (by decide)) bSdrop .nil (pass_own (takes_of rfl rfl rfl rfl)) (pa_cons (pv 2) pa_nil)))
      (pss_cons (ps_if (PW.pt (pw_and (pt_cmpR op_eq (pv 3) pe_int (nomark _)) (pw_and1 (pt_cmp (pc_din (hu_of hr) (pv 2) (pe_fld (pv 0) rfl)))))) (pss_one (ps_ddel (pe_fld (pv 0) rfl) (pv 2))) pss_nil)
      (pss_one (ps_ret (pv 3)))))), ?_⟩
    obtain ⟨dx, ho⟩ := S.o
    obtain ⟨ds, hs⟩ := st_spu S
    refine q_asg (ev_op (ev_var rfl) ev_c (rv_ixT (st_of ht) (v := .int z) (atI_nat (j := 0) rfl))) fun H0 e0 => ?_
    refine q_mA (ev_fld (ev_var rfl) (e0 _ _ ho) TT.cl TT.ns t_s) (e0 _ _ hs) (sno (.inr (.inr (.inr (.inr (.inr (.inr rfl))))))) (ea_cons (ev_var rfl) ea_nil) fun H1 e1 => ⟨k.sp, k.cl, k.hl, d.cs, k.hs, z, rfl, (S.ex (e0.trans e1)).sp, fun i hi hlt hu H2 H3 e2 e3 => ?_, fun hn H2 e2 => qE (fun h => hn ⟨⟨h.1, by rw [S.lc]; exact h.2.1⟩, h.2.2.1, h.2.2.2⟩) H2 ((e0.trans e1).trans e2)⟩
    subst hi
    have e02 := (e0.trans e1).trans e2
    have S3 := S.setC (by rw [List.length_set]) e02 e3
    have F3 : Fm H H3 q k := Fm.cl e02 e3
    have qq := qq i rfl (by rw [← S.lc]; exact hlt) (by have := hu.1; omega) (by have := hu.2; rw [Int.toNat_natCast] at this; exact this)
    obtain ⟨dx3, ho3⟩ := S3.o
    obtain ⟨kvs, hm, hM⟩ := S3.mm
    refine q_when (b := decide (cv d.cs i - 1 = 0) && (valV kvs (.inl (i : Int))).isSome) (et_is (et_and (et_test (ev_op (ev_var rfl) ev_c (rv_eq rfl))) (fun _ => et_B (ev_dIn (ev_var rfl) (ev_fld (ev_var rfl) ho3 TT.cl TT.nm t_m) hm))) (by simp)) (fun hb H4 e4 => ?_) (fun hb H4 e4 => ?_)
    · obtain ⟨h1, h2⟩ := Bool.and_eq_true_iff.mp hb
      have h1 := of_decide_eq_true h1
      refine s_ddel (ev_fld (ev_var rfl) (e4 _ _ ho3) TT.cl TT.nm t_m) (ev_var rfl) (e4 _ _ hm) h2 fun H5 e5 => ?_
      have S5 := S3.setM (hM.del (i := i)) (e4.trans e5)
      refine s_ret (ev_var rfl) fun H6 e6 => qq H6 ((F3.trans (Fm.mm (e4.trans e5))).trans (Fm.of e6)) ?_
      have hd : dropD d i = { d with cs := d.cs.set i (cv d.cs i + -1), mem := setM d.mem i none } := by
        unfold dropD
        rw [if_pos h1]
      rw [hd]
      exact S5.ex e6
    · refine s_ret (ev_var rfl) fun H6 e6 => qq H6 (F3.trans (Fm.of (e4.trans e6))) ?_
      have hd : dropD d i = { d with cs := d.cs.set i (cv d.cs i + -1) } := by
        unfold dropD
        by_cases h1 : cv d.cs i - 1 = 0
        · rw [if_pos h1]
          have hn : d.mem i = none := by
            rcases hM.v i with ⟨a, _⟩ | ⟨_, _, _, b, _⟩
            · exact a
            · rw [b, decide_eq_true h1] at hb
              cases hb
          have : setM d.mem i none = d.mem := funext fun x => by
            unfold setM
            split
            · rename_i e
              rw [e, hn]
            · rfl
          rw [this]
        · rw [if_neg h1]
      rw [hd]
      exact S3.ex (e4.trans e6)
end

end K23

set_option Elab.async false
set_option linter.all false
set_option maxRecDepth 100000
set_option maxHeartbeats 4000000
namespace K23
open PySem PySem.Spec PyProof.Rows L2 Evl LK LT LG LS LQ LX LO LN LP LH LV LZ LW StX LD
open K23D (DK Dk St)
open K23S (fr cv hv headV used In flds)
section
variable {P : Program} {w : World} {K : PySem.W.Frag} {mg : Str → Option Value} {base : Heap} {c : Cc} {CN CO CE Pw : Addr}
theorem ok_make {f fA fT fG : Addr} {fd fdA fdT fdG : FuncData} (F : Fun K "make" "Store.make" sMake f fd) (FAw : Fun K "are_words" "are_words" K23D.sAre fA fdA) (GAw : FnOk P w K mg base CX0 1 fA fdA ["values", "many"] (K23D.spAre Pw)) (bAw : Binds K fdA ["values", "many"] []) (gAw : mg "are_words" = some (.ref fA)) (GStake : FnOk P w K mg base (L2.CX P w) 6 fT fdT ["self", "reserve"] (K23S.spTake c.S CE)) (bStake : Binds K fdT ["self", "reserve"] []) (mStake : Meth K c.S "take" fT)
    (Ggeneration : FnOk P w K mg base CX0 1 fG fdG ["self"] (spGen c)) (bgeneration : Binds K fdG ["self"] []) (mgeneration : Meth K c.T "generation" fG) (T : Txt mg) (TT : TxT mg K c.T) (TS : K23S.Txt mg K c.S) (XN : Xc K mg "NotValid" CN) : FnOk P w K mg base (L2.CX P w) 7 f fd ["self", "words"] (spMake c CN CE Pw) := by
  obtain ⟨_, gBLOCK_WORDS⟩ := T.gBLOCK_WORDS
  refine F.okX scMake (fun vs H Q E h => ?_) (fun cdv A outer s H vs Q E hr h => ?_)
  · obtain ⟨G, q, k, d, u, xs, rfl, _⟩ := h
    rfl
  · obtain ⟨G, q, k, d, u, xs, rfl, S, hu, hk, hT, hr0, huc, qN, qE, qq⟩ := h
    refine ⟨_, (pss_cons (ps_if (pt_not (pt_val (pe_call GAw (hr.mono (by decide)) (by rfl) gAw FAw.kp bAw .nil pass0 (pa_cons (pv 1) (pa_cons (pe_glob (v := .int 32) rfl gBLOCK_WORDS ⟨_, rfl⟩) pa_nil))))) (pss_one (ps_raise0 rfl XN (takes_of rfl rfl rfl rfl) (by rfl))) pss_nil)
      (pss_cons (ps_set (i := 2) scMake.nd rfl (Or.inl rfl) (pe_meth (pe_fld (pv 0) rfl) TS.cl mStake GStake (hr.mono (by decide)) bStake .nil (pass_own (takes_of rfl rfl rfl rfl)) (pa_cons (pe_fld (pv 0) rfl) pa_nil)))
      (pss_cons (ps_dput (hu_of hr) (pe_fld (pv 0) rfl) (pv 2) (pe_callTy call_tuple_of (by rfl) T.tuple (by decide +kernel) (pa_cons (pv 1) pa_nil)) (by rfl))
      (pss_one (ps_ret (pe_tup (pa_cons (pv 2) (pa_cons (pe_meth0 (pv 0) TT.cl mgeneration Ggeneration (hr.mono (by decide)) bgeneration .nil pass0) pa_nil)))))))), ?_⟩
    obtain ⟨dx, ho⟩ := S.o
    obtain ⟨ds, hs⟩ := st_spu S
    refine q_when (et_not (et_B (ev_call (vs := [.ref u, .int 32]) (ea_cons (ev_var rfl) (ea_cons ev_c ea_nil)) (fun H1 e1 Q' q' E' => ⟨hT.mono e1, u, xs, 32, rfl, e1 _ _ hu, fun x hx => let ⟨n, h⟩ := hk x hx; ⟨n, h.mono e1⟩, q'⟩)))) (fun hb H1 e1 => ?_) (fun hb H1 e1 => ?_)
    · refine qN (fun h => ?_) H1 e1
      rw [wd_okB.mpr h] at hb
      cases hb
    have hok : okB xs := wd_okB.mp (by
      cases hx : (decide ((xs.length : Int) = 32) && xs.all K23D.wd) with
      | true => rfl
      | false =>
        rw [hx] at hb
        cases hb)
    obtain ⟨ws, hws, hl32, hnn⟩ := id hok
    refine q_mA (ev_fld (ev_var rfl) (e1 _ _ ho) TT.cl TT.ns t_s) (e1 _ _ hs) (sno (.inr (.inr (.inl rfl)))) (ea_cons (ev_fld (ev_var rfl) (e1 _ _ ho) TT.cl TT.nr t_r) ea_nil) fun H2 e2 => ⟨k.sp, k.cl, k.hl, d.cs, k.hs, d.r, rfl, (S.ex (e1.trans e2)).sp, hr0, fun hle H3 e3 => qE hok hle H3 ((e1.trans e2).trans e3), fun hlt i H3 H4 hv hi e3 e4 => ?_⟩
    have e03 := (e1.trans e2).trans e3
    have hin : i < k.n := by rw [← S.lc]; exact hi
    have S4 := S.setC (by rw [List.length_set]) e03 e4
    have F4 : Fm H H4 q k := Fm.cl e03 e4
    obtain ⟨dx4, ho4⟩ := S4.o
    obtain ⟨kvs, hm, hM⟩ := S4.mm
    have hu4 : H4 u = some (.lst xs) := e4 _ _ (by rw [upd_ne huc]; exact e03 _ _ hu)
    refine q_dputU (eu_tupV (ev_var rfl) hu4) (ev_fld (ev_var rfl) ho4 TT.cl TT.nm t_m) (ev_var rfl) hm (by have := hM.len; have := S.dk.n1; omega) fun t5 H5 ht5 e5 h5 => ?_
    obtain ⟨G5, J5, S5, new5⟩ := S4.join e5
    obtain ⟨kvs5, hm5, hM5⟩ := S5.mm
    have hkv : kvs5 = kvs := by
      rw [e5 _ _ hm] at hm5
      exact (HO.dK.inj (Option.some.inj hm5)).symm
    rw [hkv] at hM5 hm5
    have S6 := S5.setM (hM5.put (ws := ws) hin (new5 _ _ ht5 (by rw [h5, hws]))) (Ex.refl _)
    have F6 : Fm H (upd H5 k.m (.dK (putK kvs (.inl (i : Int)) (.ref t5)))) q k := F4.trans (Fm.mm e5)
    have A6 : St G H G5 (upd H5 k.m (.dK (putK kvs (.inl (i : Int)) (.ref t5)))) := ⟨J5.g, fun a ha g => J5.n a (al_of F4 S4 a ha) g, al_of F6 S6⟩
    generalize upd H5 k.m (.dK (putK kvs (.inl (i : Int)) (.ref t5))) = H6 at *
    obtain ⟨dx6, ho6⟩ := S6.o
    refine s_retU (eu_tup (ea_cons (ev_var rfl) (ea_cons (ev_meth0 (ev_var rfl) ho6 (tno (.inl rfl)) (sv_gen S6)) ea_nil)) (Nat.le_of_ble_eq_true rfl)) fun t H7 ht e7 h7 => ?_
    obtain ⟨G7, J7, S7, new7⟩ := S6.join e7
    exact qq ws i hws hl32 hnn hlt hv hin G7 H7 t (A6.trans J7) (F6.trans (Fm.of e7)) S7 (Classical.byContradiction fun h => al_of F6 S6 t h ht) (new7 _ _ ht h7)
theorem ok_swrite {f fA fN : Addr} {fd fdA fdN : FuncData} (F : Fun K "write" "Store.write" sWrite f fd) (FAw : Fun K "are_words" "are_words" K23D.sAre fA fdA) (GAw : FnOk P w K mg base CX0 1 fA fdA ["values", "many"] (K23D.spAre Pw)) (bAw : Binds K fdA ["values", "many"] []) (gAw : mg "are_words" = some (.ref fA)) (Gis_new : FnOk P w K mg base (L2.CX P w) 5 fN fdN ["self", "pointer"] (spNew c CN)) (bis_new : Binds K fdN ["self", "pointer"] []) (mis_new : Meth K c.T "is_new" fN) (T : Txt mg) (TT : TxT mg K c.T) (XN : Xc K mg "NotValid" CN) : FnOk P w K mg base (L2.CX P w) 6 f fd ["self", "pointer", "words"] (spWrite c CN Pw) := by
  obtain ⟨_, gBLOCK_WORDS⟩ := T.gBLOCK_WORDS
  refine F.okX scWrite (fun vs H Q E h => ?_) (fun cdv A outer s H vs Q E hr h => ?_)
  · obtain ⟨G, q, k, d, t, z, ys, u, xs, rfl, _⟩ := h
    rfl
  · obtain ⟨G, q, k, d, t, z, ys, u, xs, rfl, S, ht, hu, hk, hT, qN, qq⟩ := h
    refine ⟨_, (pss_cons (ps_if (PW.pt (pw_or (pt_not (pt_val (pe_meth (pv 0) TT.cl mis_new Gis_new (hr.mono (by decide)) bis_new .nil (pass_own (takes_of rfl rfl rfl rfl)) (pa_cons (pv 1) pa_nil)))) (pw_or1 (pt_not (pt_val (pe_call GAw (hr.mono (by decide)) (by rfl) gAw FAw.kp bAw .nil pass0 (pa_cons (pv 2) (pa_cons (pe_glob (v := .int 32) rfl gBLOCK_WORDS ⟨_, rfl⟩) pa_nil)))))))) (pss_one (ps_raise0 rfl XN (takes_of rfl rfl rfl rfl) (by rfl))) pss_nil)
      (pss_one (ps_dput (hu_of hr) (pe_fld (pv 0) rfl) (pe_ix ix_tup (pv 1) pe_int (fun _ _ => rfl)) (pe_callTy call_tuple_of (by rfl) T.tuple (by decide +kernel) (pa_cons (pv 2) pa_nil)) (by rfl)))), ?_⟩
    obtain ⟨dx, ho⟩ := S.o
    by_cases hz : 0 ≤ z ∧ z < k.n
    · obtain ⟨i, rfl⟩ := Int.eq_ofNat_of_zero_le hz.1
      have hi : i < k.n := by omega
      refine q_when (et_or (et_not (et_B (ev_meth (z := .bl (newB k d i)) (ev_var rfl) ho (tno (.inr (.inr (.inr (.inl rfl))))) (ea_cons (ev_var rfl) ea_nil) (fun H1 e1 Q' q' E' => ⟨G, q, k, d, t, (i : Int), ys, rfl, S.ex e1, e1 _ _ ht, fun j hj hjn => by
        have : i = j := by omega
        subst this
        exact q', fun hn => absurd hz hn⟩)))) (fun _ => et_not (et_B (ev_call (vs := [.ref u, .int 32]) (ea_cons (ev_var rfl) (ea_cons ev_c ea_nil)) (fun H1 e1 Q' q' E' => ⟨hT.mono e1, u, xs, 32, rfl, e1 _ _ hu, fun x hx => let ⟨n, h⟩ := hk x hx; ⟨n, h.mono e1⟩, q'⟩))))) (fun hb H1 e1 => ?_) (fun hb H1 e1 => ?_)
      · refine qN (fun h => ?_) H1 e1
        have h3 := h.2.2.1
        rw [Int.toNat_natCast] at h3
        rw [h3, wd_okB.mpr h.2.2.2] at hb
        cases hb
      have hb2 : newB k d i = true ∧ (decide ((xs.length : Int) = 32) && xs.all K23D.wd) = true := by
        cases h1 : newB k d i with
        | false =>
          rw [h1] at hb
          cases hb
        | true =>
          refine ⟨rfl, ?_⟩
          cases h2 : (decide ((xs.length : Int) = 32) && xs.all K23D.wd) with
          | true => rfl
          | false =>
            rw [h1, h2] at hb
            cases hb
      obtain ⟨ws, hws, hl32, hnn⟩ := wd_okB.mp hb2.2
      obtain ⟨kvs, hm, hM⟩ := S.mm
      refine s_dputU (eu_tupV (ev_var rfl) (e1 _ _ hu)) (ev_fld (ev_var rfl) (e1 _ _ ho) TT.cl TT.nm t_m) (ev_op (ev_var rfl) ev_c (rv_ixT (st_of (e1 _ _ ht)) (v := .int (i : Int)) (atI_nat (j := 0) rfl))) (e1 _ _ hm) (by have := hM.len; have := S.dk.n1; omega) fun t5 H5 ht5 e5 h5 => ?_
      obtain ⟨G5, J5, S5, new5⟩ := S.join (e1.trans e5)
      obtain ⟨kvs5, hm5, hM5⟩ := S5.mm
      have hkv : kvs5 = kvs := by
        rw [(e1.trans e5) _ _ hm] at hm5
        exact (HO.dK.inj (Option.some.inj hm5)).symm
      rw [hkv] at hM5 hm5
      have S6 := S5.setM (hM5.put (ws := ws) hi (new5 _ _ (fresh_back e1 ht5) (by rw [h5, hws]))) (Ex.refl _)
      have F6 : Fm H (upd H5 k.m (.dK (putK kvs (.inl (i : Int)) (.ref t5)))) q k := Fm.mm (e1.trans e5)
      exact qq ws i hws hl32 hnn rfl hi hb2.1 G5 _ ⟨J5.g, J5.n, al_of F6 S6⟩ F6 S6
    · show tMeth c.T "is_new" (spNew c CN) [] _ (tVar 0) (tCons (tVar 1) tNil) _ H _
      exact m_run (ev_var rfl) ho (tno (.inr (.inr (.inr (.inl rfl))))) (ea_cons (ev_var rfl) ea_nil) fun H1 e1 => ⟨G, q, k, d, t, z, ys, rfl, S.ex e1, e1 _ _ ht, fun i hi hlt => absurd ⟨by omega, by omega⟩ hz, fun hn H2 e2 => qN (fun h => hz ⟨h.1, h.2.1⟩) H2 (e1.trans e2)⟩
theorem memL_sorted (k : Sk) (d : Sd) : ((memL k d).map fun i : Nat => (i : Int)).Pairwise (· ≤ ·) := by
  rw [List.pairwise_map]
  refine (List.Pairwise.filter _ (List.pairwise_lt_range (n := k.n))).imp fun h => ?_
  omega
theorem ok_nb {f : Addr} {fd : FuncData} (F : Fun K "new_blocks" "Store.new_blocks" sNb f fd) (T : Txt mg) (TT : TxT mg K c.T) : FnOk P w K mg base CX0 1 f fd ["self"] (spNb c) := by
  refine F.ok scNb (fun vs H Q E h => ?_) (fun cdv A outer s H vs Q E hr h => ?_)
  · obtain ⟨G, q, k, d, rfl, _⟩ := h
    rfl
  · obtain ⟨G, q, k, d, rfl, S, h64, qq⟩ := h
    refine ⟨_, (pss_one (ps_ret (pe_callB (call_sortedDI rfl) (by rfl) T.sorted (by decide +kernel) (pa_cons (pe_fld (pv 0) rfl) pa_nil)))), ?_⟩
    obtain ⟨dx, ho⟩ := S.o
    obtain ⟨kvs, hm, hM⟩ := S.mm
    obtain ⟨ks, k1, k2, k3⟩ := hM.ks
    have hp : ks.Perm (memL k d) := (List.perm_ext_iff_of_nodup k2 (List.Pairwise.filter _ List.nodup_range)).mpr fun a => by
      rw [k3]
      rw [List.mem_filter, List.mem_range, Option.isSome_iff_ne_none]
    refine s_retL (el_is (el_sortedD (ks := ks.map fun i : Nat => (i : Int)) (ns := (memL k d).map fun i : Nat => (i : Int)) (ev_fld (ev_var rfl) ho TT.cl TT.nm t_m) hm (by rw [k1, List.map_map]; rfl) (by rw [List.length_map, hp.length_eq]; exact h64) (fun ys p1 p2 => sorted_uni (p1.trans (hp.map _)) p2 (memL_sorted k d))) (by rw [List.map_map]; rfl)) qq
end

end K23

set_option Elab.async false
set_option linter.all false
set_option maxRecDepth 100000
set_option maxHeartbeats 4000000
namespace K23
open PySem PySem.Spec PyProof.Rows L2 Evl LK LT LG LS LQ LX LO LN LP LH LV LZ LW StX LD
open K23D (DK Dk St)
open K23S (fr cv hv headV used In flds)
inductive Out
  | val (v : V)
  | ref (b : Bool)
def wS (b : Bool) : Str := if b = true then "room" else "invalid"
def IsOut (H : Hp) (v : V) : Out → Prop
  | .val u => v = u
  | .ref b => ∃ q, v = .ref q ∧ H q = some (.lst [.str "refused", .str (wS b)])
def rfD (b : Bool) : PyData := .list [.str "refused", .str (wS b)]
theorem sh_rf (b : Bool) : Sh 1 (rfD b) := by cases b <;> exact ⟨by decide +kernel, by decide +kernel⟩
theorem rf_int (i : Int) (b : Bool) : PyData.eqv (.int i) (rfD b) = false := by cases b <;> simp [rfD, PyData.eqv]
theorem dp_rf {K : PySem.W.Frag} {H : Hp} {q : Addr} {b : Bool} (h : H q = some (.lst [.str "refused", .str (wS b)])) : Dp K H (.ref q) (rfD b) := .lst (sq_of h) (.cons (.str _) (.cons (.str _) .nil))
def good : Out → Prop
  | .val v => v = .non ∨ (∃ i, v = .int i) ∨ ∃ b, v = .bl b
  | .ref _ => True
theorem IsOut.ex {H H' : Hp} {v : V} {o : Out} (h : IsOut H v o) (e : Ex H H') : IsOut H' v o := by
  cases o with
  | val u => exact h
  | ref b => obtain ⟨q, e1, h1⟩ := h; exact ⟨q, e1, e _ _ h1⟩
def spSame : Sp := fun vs H Q _ => ∃ v w o, vs = [v, w] ∧ IsOut H v o ∧ IsOut H w o ∧ good o ∧ RetV (.bl true) H Q
section
variable {P : Program} {w : World} {K : PySem.W.Frag} {mg : Str → Option Value} {base : Heap} 
theorem sv_same {H : Hp} {v w : V} {o : Out} (h1 : IsOut H v o) (h2 : IsOut H w o) (h3 : good o) : SpV spSame [v, w] H (.bl true) := fun H1 e1 Q q E => ⟨v, w, o, rfl, h1.ex e1, h2.ex e1, h3, q⟩
theorem ok_same {f : Addr} {fd : FuncData} (F : Fun K "_law_same" "_law_same" sSame f fd) (T : Txt mg) : FnOk P w K mg base CX0 1 f fd ["told", "due"] spSame := by
  refine F.ok scSame (fun vs H Q E h => ?_) (fun cdv A outer s H vs Q E hr h => ?_)
  · obtain ⟨v, w, o, rfl, _⟩ := h
    rfl
  · obtain ⟨v, w, o, rfl, hv, hw, hg, q⟩ := h
    refine ⟨_, (pss_cons (ps_if (pt_cmpR op_isN (pv 1) pe_non (nomark _)) (pss_one (ps_ret (pe_cmpR op_isN (pv 0) pe_non (nomark _)))) pss_nil)
      (pss_one (ps_ret (pe_and (pe_cmpR op_eq (pe_callB call_isi (by rfl) T.isinstance (by decide +kernel) (pa_cons (pv 0) (pa_cons (pe_bltn (v := .ty "bool") (u := .type "bool") (by rfl) T.bool (by decide +kernel) rfl) pa_nil))) (pe_callB call_isi (by rfl) T.isinstance (by decide +kernel) (pa_cons (pv 1) (pa_cons (pe_bltn (v := .ty "bool") (u := .type "bool") (by rfl) T.bool (by decide +kernel) rfl) pa_nil))) (nomark _)) (pe_one (pe_cmpR (op_eqD hr.units) (pv 0) (pv 1) (nomark _))))))), ?_⟩
    cases o with
    | val u =>
      cases hv
      cases hw
      rcases hg with rfl | ⟨i, rfl⟩ | ⟨b, rfl⟩
      · refine q_when (b := true) (et_is (et_test (ev_op (ev_var rfl) ev_c rv_isN)) (decide_eq_true rfl)) (fun _ H1 e1 => ?_) (fun h => by cases h)
        exact s_ret (ev_is (ev_op (ev_var rfl) ev_c rv_isN) (congrArg V.bl (decide_eq_true rfl))) fun H2 e2 => q H2 (e1.trans e2)
      · refine q_when (b := false) (et_is (et_test (ev_op (ev_var rfl) ev_c rv_isN)) (decide_eq_false fun e => V.noConfusion e)) (fun h => by cases h) (fun _ H1 e1 => ?_)
        exact s_ret (ev_is (ev_andV (ev_op (ev_isi (b := false) (ev_var rfl) ev_c (fun _ _ => .base (.int _)) (kit_ty rfl)) (ev_isi (b := false) (ev_var rfl) ev_c (fun _ _ => .base (.int _)) (kit_ty rfl)) (rv_eq rfl)) (fun _ => ev_op (ev_var rfl) (ev_var rfl) (rv_eqD (.int i) (.int i) (sh_int i 1) (by decide)))) (by simp)) fun H2 e2 => q H2 (e1.trans e2)
      · refine q_when (b := false) (et_is (et_test (ev_op (ev_var rfl) ev_c rv_isN)) (decide_eq_false fun e => V.noConfusion e)) (fun h => by cases h) (fun _ H1 e1 => ?_)
        exact s_ret (ev_is (ev_andV (ev_op (ev_isi (b := true) (ev_var rfl) ev_c (fun _ _ => .base (.bl _)) (kit_ty rfl)) (ev_isi (b := true) (ev_var rfl) ev_c (fun _ _ => .base (.bl _)) (kit_ty rfl)) (rv_eq rfl)) (fun _ => ev_op (ev_var rfl) (ev_var rfl) (rv_eqD (.bl b) (.bl b) (sh_bool b 1) (by decide)))) (by simp)) fun H2 e2 => q H2 (e1.trans e2)
    | ref b =>
      obtain ⟨q1, rfl, h1⟩ := hv
      obtain ⟨q2, rfl, h2⟩ := hw
      refine q_when (b := false) (et_is (et_test (ev_op (ev_var rfl) ev_c rv_isN)) (decide_eq_false fun e => V.noConfusion e)) (fun h => by cases h) (fun _ H1 e1 => ?_)
      exact s_ret (ev_is (ev_andV (ev_op (ev_isi (b := false) (ev_var rfl) ev_c (fun H1' e' => .base (.lst ((e1.trans e') _ _ h1))) (kit_ty rfl)) (ev_isi (b := false) (ev_var rfl) ev_c (fun H1' e' => .base (.lst ((e1.trans e') _ _ h2))) (kit_ty rfl)) (rv_eq rfl)) (fun _ => ev_op (ev_var rfl) (ev_var rfl) (rv_eqD (dp_rf (e1 _ _ h1)) (dp_rf (e1 _ _ h2)) (sh_rf b) (by decide)))) (by simp)) fun H2 e2 => q H2 (e1.trans e2)
end

/-! ### the makers -/
structure SP (c : Cc) (G H : Hp) (q : Addr) (k : Sk) (cs : List Int) : Prop where
  dk : DK c.D G H k.dp k.ka k.sa k.wa k.n ⟨k.f, [], true, none⟩
  gq : G q = none
  h : ∃ dx, G k.hp = some (.ins c.H dx (hfl k.g k.tb k.n))
  s : ∃ dx, G k.sp = some (.ins c.S dx (flds k.n k.cl k.hl))
  c : H k.cl = some (.lst (cs.map V.int))
  gc : G k.cl = none
  hh : G k.hl = some (.lst (k.hs.map V.bl))
  lc : cs.length = k.n
  lh : k.hs.length = k.n
  q1 : q ≠ k.dp ∧ q ≠ k.ka ∧ q ≠ k.sa ∧ q ≠ k.wa
  c1 : k.cl ≠ k.dp ∧ k.cl ≠ k.ka ∧ k.cl ≠ k.sa ∧ k.cl ≠ k.wa
  qc : q ≠ k.cl
def spHin (c : Cc) : Sp := fun vs H Q _ => ∃ (p tb dx : Addr) (g n : Int), vs = [.ref p, .int g, .ref tb, .int n] ∧ H p = some (.ins c.H dx []) ∧ ∀ H1, Bx p H H1 → H1 p = some (.ins c.H dx (hfl g tb n)) → Q .non H1
def spTin (c : Cc) : Sp := fun vs H Q _ => ∃ (G : Hp) (q dx : Addr) (k : Sk) (cs : List Int), vs = [.ref q, .ref k.dp, .ref k.hp, .ref k.sp] ∧ H q = some (.ins c.T dx []) ∧ SP c G H q k cs ∧ ∀ m H1, (∀ a o, H a = some o → a ≠ q → H1 a = some o) → ST c G H1 q { k with m := m } ⟨60, cs, fun _ => none⟩ → Q .non H1
/-! ### the law's helpers -/
def spLb : Sp := fun vs H Q _ => ∃ a b : Int, vs = [.int a, .int b] ∧ 0 ≤ a ∧ a < 1000 ∧ 0 ≤ b ∧ b < 1000 ∧ ∀ p H' (ns : List Int), H p = none → Ex H H' → H' p = some (.lst (ns.map V.int)) → ns.length = 32 → (∀ z ∈ ns, 0 ≤ z) → Q (.ref p) H'
def spLib : Sp := fun vs H Q _ => ∃ (a b : Addr) (ns : List Int), vs = [.ref a, .ref b] ∧ H a = some (.lst (ns.map V.int)) ∧ H b = some (.lst (ns.map V.int)) ∧ ns.length = 32 ∧ RetV (.bl true) H Q
def spLfr (K : PySem.W.Frag) : Sp := fun vs H Q _ => ∃ na ha cs hs, vs = [.ref na, .ref ha] ∧ H na = some (.lst (cs.map V.int)) ∧ H ha = some (.lst (hs.map V.bl)) ∧ cs.length = 96 ∧ hs.length = 96 ∧ ∀ p H', H p = none → Ex H H' → H' p = some (.lst ((fr cs hs false).map fun i => .int ((i : Nat) : Int))) → Q (.ref p) H'
def ImgL (G : Hp) (a : Addr) (n : Nat) (f : Nat → List Int) : Prop := ∃ ks : List Addr, G a = some (.lst (ks.map V.ref)) ∧ ks.length = n ∧ ∀ (i : Nat) (x : Addr), ks[i]? = some x → G x = some (.lst ((f i).map V.int))
def spLold : Sp := fun vs H Q _ => ∃ (a : Addr) (f : Nat → List Int) (i n : Nat), vs = [.ref a, .int (i : Int)] ∧ ImgL H a (4 * n) f ∧ i < n ∧ n ≤ 256 ∧ (∀ s, (f s).length = 8) ∧ RetL ((blk f i).map V.int) H Q
def wb (i : Nat) (ns : List Int) (m : Nat) : List (Nat × List Int) := (List.range m).map fun j => (4 * i + j, (ns.drop (8 * j)).take 8)
def spLpb (C Pw : Addr) : Sp := fun vs H Q _ => ∃ G p ka sa wa n d u ns, ∃ i : Nat, vs = [.ref p, .int (i : Int), .ref u] ∧ DK C G H p ka sa wa n d ∧ H u = some (.lst (ns.map V.int)) ∧ ns.length = 32 ∧ (∀ z ∈ ns, 0 ≤ z) ∧ i < n ∧ d.pw = true ∧ d.bf = none ∧ d.ws.length + 4 ≤ 100 ∧ Tab G Pw ∧
  ∀ G' H1, St G H G' H1 → (∀ a o, H a = some o → a ≠ p → a ≠ sa → a ≠ wa → H1 a = some o) → DK C G' H1 p ka sa wa n ⟨d.kept, d.ws ++ wb i ns 4, true, none⟩ → Q .non H1
theorem ir_ne {row : List Int} {ks : List Addr} (h : 0 < row.length) : HO.lst (row.map V.int) ≠ HO.lst (ks.map V.ref) := fun z => by
  match row, h, ks with
  | x :: r, _, [] => cases z
  | x :: r, _, k :: ks => cases z
section
variable {P : Program} {w : World} {K : PySem.W.Frag} {mg : Str → Option Value} {base : Heap} {c : Cc} {CN CO CE Pw : Addr}
theorem ok_hin {f : Addr} {fd : FuncData} (F : Fun K "__init__" "Head.__init__" sHin f fd) (TH : TxH mg K c.H) : FnOk P w K mg base CX0 1 f fd ["self", "generation", "table", "blocks"] (spHin c) := by
  refine F.ok scHin (fun vs H Q E h => ?_) (fun cdv A outer s H vs Q E hr h => ?_)
  · obtain ⟨p, tb, dx, g, n, rfl, _⟩ := h
    rfl
  · obtain ⟨p, tb, dx, g, n, rfl, ho, q⟩ := h
    refine ⟨_, (pss_cons (ps_fld (pv 0) (pv 1) rfl)
      (pss_cons (ps_fld (pv 0) (pv 2) rfl)
      (pss_one (ps_fld (pv 0) (pv 3) rfl)))), ?_⟩
    refine q_fld (ev_var rfl) (ev_var rfl) ho TH.cl TH.ng (by show 0 < 1000; decide) fun H1 e1 => ?_
    refine q_fld (ev_var rfl) (ev_var rfl) upd_same TH.cl TH.nt (by show 1 < 1000; decide) fun H2 e2 => ?_
    refine s_fld (ev_var rfl) (ev_var rfl) upd_same TH.cl TH.nb (by show 2 < 1000; decide) fun H3 e3 => ?_
    exact q _ (((Bx.of e1).up.trans (Bx.of e2)).up.trans (Bx.of e3)).up upd_same
theorem ok_tin {f : Addr} {fd : FuncData} (F : Fun K "__init__" "Store.__init__" sInit f fd) (T : Txt mg) (TT : TxT mg K c.T) (TH : TxH mg K c.H) : FnOk P w K mg base CX0 1 f fd ["self", "disk", "head", "space"] (spTin c) := by
  obtain ⟨_, gADD⟩ := T.gADD
  refine F.ok scInit (fun vs H Q E h => ?_) (fun cdv A outer s H vs Q E hr h => ?_)
  · obtain ⟨G, q, dx, k, cs, rfl, _⟩ := h
    rfl
  · obtain ⟨G, q, dx, k, cs, rfl, ho, S, qq⟩ := h
    refine ⟨_, (pss_cons (ps_fld (pv 0) (pv 1) rfl)
      (pss_cons (ps_fld (pv 0) (pv 2) rfl)
      (pss_cons (ps_fld (pv 0) (pv 3) rfl)
      (pss_cons (ps_fld (pv 0) (pe_fld (pv 2) rfl) rfl)
      (pss_cons (ps_fld (pv 0) (pe_glob (v := .int 60) rfl gADD ⟨_, rfl⟩) rfl)
      (pss_one (ps_fld (pv 0) pe_dnewK rfl))))))), ?_⟩
    obtain ⟨dh, hh⟩ := S.h
    have hh0 := S.dk.g _ _ hh
    have hpq : k.hp ≠ q := fun z => by rw [z, S.gq] at hh; cases hh
    have U : ∀ {A B : Hp} {o : HO}, (∀ a u, H a = some u → a ≠ q → A a = some u) → Ex A B → ∀ a u, H a = some u → a ≠ q → (upd B q o) a = some u := fun h e a u ha hn => by
      rw [upd_ne hn]
      exact e _ _ (h a u ha hn)
    refine q_fld (ev_var rfl) (ev_var rfl) ho TT.cl TT.nd (by show 0 < 1000; decide) fun H1 e1 => ?_
    have u1 := U (o := .ins c.T dx (putF "disk" (.ref k.dp) [])) (fun a u h _ => h) e1
    refine q_fld (ev_var rfl) (ev_var rfl) upd_same TT.cl TT.nh (by show 1 < 1000; decide) fun H2 e2 => ?_
    have u2 := U (o := .ins c.T dx (putF "head" (.ref k.hp) (putF "disk" (.ref k.dp) []))) u1 e2
    refine q_fld (ev_var rfl) (ev_var rfl) upd_same TT.cl TT.ns (by show 2 < 1000; decide) fun H3 e3 => ?_
    have u3 := U (o := .ins c.T dx (putF "space" (.ref k.sp) (putF "head" (.ref k.hp) (putF "disk" (.ref k.dp) [])))) u2 e3
    refine q_fld (ev_fld (ev_var rfl) (u3 _ _ hh0 hpq) TH.cl TH.nt rfl) (ev_var rfl) upd_same TT.cl TT.nt (by show 3 < 1000; decide) fun H4 e4 => ?_
    have u4 := U (o := .ins c.T dx (putF "table" (.ref k.tb) (putF "space" (.ref k.sp) (putF "head" (.ref k.hp) (putF "disk" (.ref k.dp) []))))) u3 e4
    refine q_fld ev_c (ev_var rfl) upd_same TT.cl TT.nr (by show 4 < 1000; decide) fun H5 e5 => ?_
    have u5 := U (o := .ins c.T dx (putF "reserve" (.int 60) (putF "table" (.ref k.tb) (putF "space" (.ref k.sp) (putF "head" (.ref k.hp) (putF "disk" (.ref k.dp) [])))))) u4 e5
    have o5 : (upd H5 q (.ins c.T dx (putF "reserve" (.int 60) (putF "table" (.ref k.tb) (putF "space" (.ref k.sp) (putF "head" (.ref k.hp) (putF "disk" (.ref k.dp) []))))))) q = some (.ins c.T dx (putF "reserve" (.int 60) (putF "table" (.ref k.tb) (putF "space" (.ref k.sp) (putF "head" (.ref k.hp) (putF "disk" (.ref k.dp) [])))))) := upd_same
    generalize upd H5 q (.ins c.T dx (putF "reserve" (.int 60) (putF "table" (.ref k.tb) (putF "space" (.ref k.sp) (putF "head" (.ref k.hp) (putF "disk" (.ref k.dp) [])))))) = H6 at u5 o5
    refine fun m hm => ?_
    have eN := Ex.new (o := .dK []) hm
    have hmm : (upd H6 m (.dK [])) m = some (.dK []) := upd_same
    have mq : m ≠ q := fun z => by rw [z, o5] at hm; cases hm
    have o7 := eN _ _ o5
    refine ⟨_, rfl, q, c.T, dx, _, rfl, o7, TT.cl, TT.nm, by show 5 < 1000; decide, ?_⟩
    have u7 := U (o := .ins c.T dx (sfl k.dp k.hp k.sp k.tb 60 m)) u5 eN
    have m7 : (upd (upd H6 m (.dK [])) q (.ins c.T dx (sfl k.dp k.hp k.sp k.tb 60 m))) m = some (.dK []) := by rw [upd_ne mq]; exact hmm
    have q7 : (upd (upd H6 m (.dK [])) q (.ins c.T dx (sfl k.dp k.hp k.sp k.tb 60 m))) q = some (.ins c.T dx (sfl k.dp k.hp k.sp k.tb 60 m)) := upd_same
    show Q .non (upd (upd H6 m (.dK [])) q (.ins c.T dx (sfl k.dp k.hp k.sp k.tb 60 m)))
    generalize upd (upd H6 m (.dK [])) q (.ins c.T dx (sfl k.dp k.hp k.sp k.tb 60 m)) = H7 at u7 m7 q7
    have fr : ∀ a, a ≠ q → H6 a = none → H a = none := fun a n h => by
      cases hx : H a with
      | none => rfl
      | some o =>
        rw [u5 a o hx n] at h
        cases h
    have m0 : H m = none := fr m mq hm
    obtain ⟨a1, a2, a3, a4⟩ := S.dk.al
    have hc := S.c
    have b7 : Bx q H H7 := fun a o n h => u7 a o h n
    refine qq m H7 (fun a o h n => u7 a o h n) ⟨dk_bx S.dk S.gq S.q1 b7, ⟨dx, q7⟩, S.gq, S.h, S.s, u7 _ _ S.c S.qc.symm, S.gc, S.hh, S.lc, S.lh, ⟨[], m7, fun i => .inl ⟨rfl, rfl⟩, [], rfl, List.nodup_nil, fun i => ⟨fun h => (by cases h), fun h => absurd rfl h.2⟩⟩, fresh_back S.dk.g m0, S.q1, S.c1, ⟨fun z => a1 (by rw [← z]; exact m0), fun z => a2 (by rw [← z]; exact m0), fun z => a3 (by rw [← z]; exact m0), fun z => a4 (by rw [← z]; exact m0)⟩, S.qc, mq.symm, fun z => by
      have z' : k.cl = m := z
      rw [← z', hc] at m0
      cases m0⟩
end

end K23

set_option Elab.async false
set_option linter.all false
set_option maxRecDepth 100000
set_option maxHeartbeats 4000000
namespace K23
open PySem PySem.Spec PyProof.Rows L2 Evl LK LT LG LS LQ LX LO LN LP LH LV LZ LW StX LD
open K23D (DK Dk St)
open K23S (fr cv hv headV used In flds)

def nw (cs : List Int) (hs : List Bool) (i : Nat) : Bool := decide (cv cs i > 0) && (!hv hs i && decide (V.int (cv cs i) = V.int 1))
def acts6 : List Str := ["write", "read", "share", "drop", "new", "uses"]
inductive DueR (cs : List Int) (hs : List Bool) : Str → Int → Out → Prop
  | out {a : Str} {z : Int} (h : z < 0 ∨ 95 < z) : DueR cs hs a z (.ref false)
  | rlow {i : Nat} (h : i < 5) : DueR cs hs "read" (i : Int) (.ref false)
  | read {i : Nat} (h5 : 5 ≤ i) (h : i < 96) : DueR cs hs "read" (i : Int) (.val .non)
  | new {i : Nat} (h : i < 96) : DueR cs hs "new" (i : Int) (.val (.bl (nw cs hs i)))
  | uses {i : Nat} (h : i < 96) : DueR cs hs "uses" (i : Int) (.val (.int (cv cs i)))
  | write {i : Nat} (h : i < 96) (hn : nw cs hs i = true) : DueR cs hs "write" (i : Int) (.val .non)
  | write_no {i : Nat} (h : i < 96) (hn : nw cs hs i = false) : DueR cs hs "write" (i : Int) (.ref false)
  | share {i : Nat} (h : i < 96) (h5 : 5 ≤ i) (h0 : cv cs i ≠ 0) : DueR cs hs "share" (i : Int) (.val .non)
  | share_no {i : Nat} (h : i < 96) (hb : i < 5 ∨ cv cs i = 0) : DueR cs hs "share" (i : Int) (.ref false)
  | drop {i : Nat} (h : i < 96) (h5 : 5 ≤ i) (h0 : cv cs i ≠ 0) : DueR cs hs "drop" (i : Int) (.val (.int (cv cs i - 1)))
  | drop_no {i : Nat} (h : i < 96) (hb : i < 5 ∨ cv cs i = 0) : DueR cs hs "drop" (i : Int) (.ref false)
def spLdue : Sp := fun vs H Q _ => ∃ na ha cs hs a z o, vs = [.ref na, .ref ha, .str a, .int z] ∧ H na = some (.lst (cs.map V.int)) ∧ H ha = some (.lst (hs.map V.bl)) ∧ cs.length = 96 ∧ hs.length = 96 ∧ DueR cs hs a z o ∧ ∀ H1 v, Ex H H1 → IsOut H1 v o → Q v H1
section
variable {P : Program} {w : World} {K : PySem.W.Frag} {mg : Str → Option Value} {base : Heap} {c : Cc} {CN CO CE Pw : Addr}
theorem ok_lb {f : Addr} {fd : FuncData} (F : Fun K "_law_block" "_law_block" sLb f fd) (T : Txt mg) : FnOk P w K mg base CX0 1 f fd ["number", "extra"] spLb := by
  refine F.ok scLb (fun vs H Q E h => ?_) (fun cdv A outer s H vs Q E hr h => ?_)
  · obtain ⟨a, b, rfl, _⟩ := h
    rfl
  · obtain ⟨a, b, rfl, a0, a1, b0, b1, q⟩ := h
    refine ⟨_, (pss_one (ps_ret (pe_lc (own := [("j", 2)]) (g := gName 2) (tt := tYes) rfl scLb.nd (pi_range1 (by rfl) T.range (pa_cons pe_int pa_nil)) (blkOk_by (own := [("j", 2)]) (N := ["number", "extra", "j"]) (sc := defScope sLb) (by decide +kernel)) (fun _ _ _ _ _ => pg_name (i := 2) scLb.nd rfl (Or.inl rfl)) (fun _ _ _ _ _ => pts_nil) (fun _ _ _ _ _ => (pe_op op_mod (pe_callTy call_int1 (by rfl) T.int (by decide +kernel) (pa_cons (pe_op op_add (pe_op op_add (pe_op op_mul (pv 0) (pe_op op_add (pv 2) pe_int)) (pe_op op_mul (pe_op op_mul (pv 1) (pv 2)) (pv 2))) (pv 2)) pa_nil)) pe_int))))), ?_⟩
    refine s_retL (el_is (el_lcR1 (n := 32) (fun _ => true) (fun i : Nat => .int ((a * ((i : Int) + 2) + b * (i : Int) * (i : Int) + (i : Int)) % 2003)) (ea_cons ev_c ea_nil) ⟨by decide, by decide⟩ (fun _ => rfl) (fun i H1 e1 hi => fun H2 _ Q q => q _ (Ex.refl _)) (fun i H1 e1 hi _ => ?_)) (show _ = (((List.range 32).map fun i : Nat => (a * ((i : Int) + 2) + b * (i : Int) * (i : Int) + (i : Int)) % 2003).map V.int : List V) from rfl)) fun L H1 hL e1 h1 => q L H1 _ hL e1 h1 (by rw [List.length_map, List.length_range]) fun z hz => ?_
    · have hi8 : i < 32 := by omega
      have m1 : b * (i : Int) < 1000000 := by
        have := Int.mul_le_mul_of_nonneg_right (show b ≤ 1000 by omega) (show (0 : Int) ≤ (i : Int) by omega)
        omega
      have m0 : 0 ≤ b * (i : Int) := Int.mul_nonneg b0 (by omega)
      exact ev_op (ev_int1 (ev_op (ev_op (ev_op (ev_var rfl) (ev_op (ev_var rfl) ev_c rv_I0) (rv_I (.inl ⟨by omega, by omega⟩))) (ev_op (ev_op (ev_var rfl) (ev_var rfl) (rv_I (.inl ⟨by omega, by omega⟩))) (ev_var rfl) (rv_I (.inl ⟨by omega, by omega⟩))) rv_I0) (ev_var rfl) rv_I0)) ev_c (rv_I (by show (0 : Int) < 2003; decide))
    · obtain ⟨i, _, rfl⟩ := List.mem_map.mp hz
      exact Int.emod_nonneg _ (by decide)
theorem ok_lib {f : Addr} {fd : FuncData} (F : Fun K "_law_is_block" "_law_is_block" sLib f fd) (T : Txt mg) : FnOk P w K mg base CX0 1 f fd ["told", "due"] spLib := by
  refine F.ok scLib (fun vs H Q E h => ?_) (fun cdv A outer s H vs Q E hr h => ?_)
  · obtain ⟨a, b, ns, rfl, _⟩ := h
    rfl
  · obtain ⟨a, b, ns, rfl, ha, hb, hl, q⟩ := h
    refine ⟨_, (pss_cons (ps_if (PW.pt (pw_or (pt_not (pt_val (pe_callB call_isi (by rfl) T.isinstance (by decide +kernel) (pa_cons (pv 0) (pa_cons (pe_bltn (v := .ty "list") (u := .type "list") (by rfl) T.list (by decide +kernel) rfl) pa_nil))))) (pw_or1 (pt_cmpR op_ne (pe_callB call_len_seq (by rfl) T.len (by decide +kernel) (pa_cons (pv 0) pa_nil)) pe_int (nomark _))))) (pss_one (ps_ret pe_bl)) pss_nil)
      (pss_cons (ps_for PassesOwn.never rfl (pi_range1 (by rfl) T.range (pa_cons pe_int pa_nil)) (pg_name (i := 2) scLib.nd rfl (Or.inl rfl)) (pss_one (ps_if (PW.pt (pw_or (pt_not (pt_val (pe_callB call_isi (by rfl) T.isinstance (by decide +kernel) (pa_cons (pe_ix ix_list (pv 0) (pv 2) (fun _ _ => rfl)) (pa_cons (pe_bltn (v := .ty "int") (u := .type "int") (by rfl) T.int (by decide +kernel) rfl) pa_nil))))) (pw_or (pt_val (pe_callB call_isi (by rfl) T.isinstance (by decide +kernel) (pa_cons (pe_ix ix_list (pv 0) (pv 2) (fun _ _ => rfl)) (pa_cons (pe_bltn (v := .ty "bool") (u := .type "bool") (by rfl) T.bool (by decide +kernel) rfl) pa_nil)))) (pw_or1 (pt_cmpR op_ne (pe_ix ix_list (pv 0) (pv 2) (fun _ _ => rfl)) (pe_ix ix_list (pv 1) (pv 2) (fun _ _ => rfl)) (nomark _)))))) (pss_one (ps_ret pe_bl)) pss_nil)))
      (pss_one (ps_ret pe_bl)))), ?_⟩
    refine q_when (b := false) (et_is (et_or (et_not (et_B (ev_isi (b := true) (ev_var rfl) ev_c (fun B c => .base (.lst (c _ _ ha))) (kit_ty rfl)))) (fun _ => et_test (ev_op (ev_is (ev_lenL (ev_var rfl) ha) (w := .int 32) (by rw [List.length_map, hl]; rfl)) ev_c (rv_ne rfl)))) rfl) (fun h => by cases h) fun _ H1 e1 => ?_
    refine q_forR1 (n := 32) (ea_cons ev_c ea_nil) ⟨by decide, by decide⟩ (fun i σ' B => ∃ y, σ' = [some (.ref a), some (.ref b), y] ∧ Ex H B) (fun B eB => ⟨none, rfl, e1.trans eB⟩) ?_ ?_
    · rintro i σ' B hi ⟨y, rfl, eB⟩
      have hi' : i < ns.length := by omega
      have X : Ev (tOp (rIxL K) (tVar 0) (tVar 2)) (List.set [some (.ref a), some (.ref b), y] 2 (some (.int (i : Int)))) B (.int ns[i]) := ev_op (ev_var rfl) (ev_var rfl) (rv_ixL (sq_of (eB _ _ ha)) (atI_nat (by rw [List.getElem?_map, List.getElem?_eq_getElem hi']; rfl)))
      have Y : Ev (tOp (rIxL K) (tVar 1) (tVar 2)) (List.set [some (.ref a), some (.ref b), y] 2 (some (.int (i : Int)))) B (.int ns[i]) := ev_op (ev_var rfl) (ev_var rfl) (rv_ixL (sq_of (eB _ _ hb)) (atI_nat (by rw [List.getElem?_map, List.getElem?_eq_getElem hi']; rfl)))
      exact s_when (b := false) (et_is (et_or (et_not (et_B (ev_isi (b := true) X ev_c (fun _ _ => .base (.int _)) (kit_ty rfl)))) (fun _ => et_or (et_B (ev_isi (b := false) X ev_c (fun _ _ => .base (.int _)) (kit_ty rfl))) (fun _ => et_test (ev_op X Y (rv_ne rfl))))) (by simp)) (fun h => by cases h) fun _ B2 b2 => ⟨_, rfl, eB.trans b2⟩
    · rintro σ' B ⟨y, rfl, eB⟩
      exact s_ret ev_c fun B2 b2 => q B2 (eB.trans b2)
theorem ok_lfr {f : Addr} {fd : FuncData} (F : Fun K "_law_free" "_law_free" sLfr f fd) (T : Txt mg) : FnOk P w K mg base CX0 1 f fd ["numbers", "held"] (spLfr K) := by
  refine F.ok scLfr (fun vs H Q E h => ?_) (fun cdv A outer s H vs Q E hr h => ?_)
  · obtain ⟨na, ha, cs, hs, rfl, _⟩ := h
    rfl
  · obtain ⟨na, ha, cs, hs, rfl, hN, hH, hlc, hlh, q⟩ := h
    refine ⟨_, (pss_one (ps_ret (pe_lc (own := [("k", 2)]) (g := gName 2) rfl scLfr.nd (pi_range1 (by rfl) T.range (pa_cons pe_int pa_nil)) (blkOk_by (own := [("k", 2)]) (N := ["numbers", "held", "k"]) (sc := defScope sLfr) (by decide +kernel)) (fun _ _ _ _ _ => pg_name (i := 2) scLfr.nd rfl (Or.inl rfl)) (fun _ _ _ _ _ => (pts_one (PW.pt (pw_and (pt_cmpR op_eq (pe_ix (r := rIxL K) ix_list (pv 0) (pv 2) (fun _ _ => rfl)) pe_int (nomark _)) (pw_and1 (pt_not (pt_val (pe_ix (r := rIxL K) ix_list (pv 1) (pv 2) (fun _ _ => rfl))))))))) (fun _ _ _ _ _ => (pv 2))))), ?_⟩
    have eg : given ((96 : Int)).toNat (K23S.fr1 cs hs false) (fun k => V.int ((k : Nat) : Int)) = (fr cs hs false).map fun k => .int ((k : Nat) : Int) := by
      unfold K23S.fr
      rw [hlc]
      rfl
    refine s_retL (el_is (el_lcR1 (n := 96) (K23S.fr1 cs hs false) (fun k => V.int ((k : Nat) : Int)) (ea_cons ev_c ea_nil) ⟨by decide, by decide⟩ (fun _ => rfl) (fun k H1 e1 hk => ?_) (fun k H1 e1 hk _ => ev_var rfl)) eg) fun p H1 hp e1 h1 => q p H1 hp e1 h1
    have hk' : k < cs.length := by omega
    have eb : (decide (V.int (cv cs k) = V.int 0) && !hv hs k) = K23S.fr1 cs hs false k := by
      unfold K23S.fr1
      rw [K23S.not_dec]
    exact et_is (et_and (et_test (ev_op (ev_op (ev_var rfl) (ev_var rfl) (rv_ixL (sq_of (e1 _ _ hN)) (atI_nat (K23S.cv_at hk')))) ev_c (rv_eq rfl))) (fun _ => et_not (et_B (ev_op (ev_var rfl) (ev_var rfl) (rv_ixL (sq_of (e1 _ _ hH)) (atI_nat (K23S.hv_at (by omega)))))))) eb
theorem el_catV {σ : L2.St} {H : Hp} {ta tb : TE} {a b : Addr} {xs ys : List V} (ha : Ev ta σ H (.ref a)) (h1 : H a = some (.lst xs)) (hb : Ev tb σ H (.ref b)) (h2 : H b = some (.lst ys)) (hz : xs.length + ys.length ≤ 100000) : EvL (tOp rCat ta tb) σ H (xs ++ ys) := fun H1 e Q q =>
  ha H1 e _ fun H2 e2 => hb H2 (e.trans e2) _ fun H3 e3 => ⟨a, b, xs, ys, rfl, rfl, (e.trans (e2.trans e3)) _ _ h1, (e.trans (e2.trans e3)) _ _ h2, sz_of hz, fun p hp => q p _ (fresh_back (e2.trans e3) hp) ((e2.trans e3).trans (Ex.new hp)) upd_same⟩
theorem s_m2L {σ : L2.St} {H : Hp} {ta te t1 : TE} {D : Ends} {sp : Sp} {E : XK} {C p dx : Addr} {m : Str} {fs : List (Str × V)} {v : V} {xs : List V} (ha : Ev ta σ H (.ref p)) (hi : H p = some (.ins C dx fs)) (hl : fs.lookup m = none) (h1 : Ev t1 σ H v) (ht : EvL te σ H xs) (k : ∀ c H1, H c = none → Ex H H1 → H1 c = some (.lst xs) → sp [.ref p, v, .ref c] H1 (fun _ H2 => D.nx σ H2) E) : tDrop (tMeth C m sp [] E ta (tCons t1 (tCons te tNil))) D σ H :=
  ha H (Ex.refl _) _ fun H2 e2 => ⟨p, dx, fs, rfl, e2 _ _ hi, hl, h1 H2 e2 _ fun H3 e3 => ht H3 (e2.trans e3) _ fun c H4 hc e4 h4 => k c H4 (fresh_back (e2.trans e3) hc) ((e2.trans e3).trans e4) h4⟩
theorem ok_lold {f : Addr} {fd : FuncData} (F : Fun K "_law_old" "_law_old" sLold f fd) (T : Txt mg) : FnOk P w K mg base CX0 1 f fd ["image", "number"] spLold := by
  refine F.ok scLold (fun vs H Q E h => ?_) (fun cdv A outer s H vs Q E hr h => ?_)
  · obtain ⟨a, f, i, n, rfl, _⟩ := h
    rfl
  · obtain ⟨a, f, i, n, rfl, ⟨ks, ha, hkl, hks⟩, hi, hn, h8, q⟩ := h
    refine ⟨_, (pss_cons (ps_set (i := 2) scLold.nd rfl (Or.inl rfl) (pe_lst pa_nil))
      (pss_cons (ps_for PassesOwn.never rfl (pi_range1 (by rfl) T.range (pa_cons pe_int pa_nil)) (pg_name (i := 3) scLold.nd rfl (Or.inl rfl)) (pss_one (ps_set (i := 2) scLold.nd rfl (Or.inl rfl) (pe_op op_cat (pv 2) (pe_ix ix_list (pv 0) (pe_op op_add (pe_op op_mul pe_int (pv 1)) (pv 3)) (fun _ _ => rfl))))))
      (pss_one (ps_ret (pv 2))))), ?_⟩
    refine q_asgL (el_lst ea_nil (by decide)) fun wl H1 hw e1 h1 => ?_
    refine q_forR1 (n := 4) (ea_cons ev_c ea_nil) ⟨by decide, by decide⟩ (fun j σ' B => ∃ y wl, σ' = [some (.ref a), some (.int (i : Int)), some (.ref wl), y] ∧ Ex H B ∧ H wl = none ∧ B wl = some (.lst (((List.range j).flatMap fun x => f (4 * i + x)).map V.int)) ∧ ((List.range j).flatMap fun x => f (4 * i + x)).length = 8 * j) (fun B eB => ⟨none, wl, rfl, e1.trans eB, hw, eB _ _ h1, rfl⟩) ?_ ?_
    · rintro j σ' B hj ⟨y, wl, rfl, eB, hw, hB, hln⟩
      have hk : 4 * i + j < ks.length := by omega
      have ek := List.getElem?_eq_getElem hk
      have hrow := hks _ _ ek
      refine s_asgL (el_catV (xs := ((List.range j).flatMap fun x => f (4 * i + x)).map V.int) (ys := (f (4 * i + j)).map V.int) (ev_var rfl) hB (ev_op (ev_var rfl) (ev_op (ev_op ev_c (ev_var rfl) (rv_I (.inl ⟨by decide, by decide⟩))) (ev_var rfl) rv_I0) (rv_ixL (v := .ref ks[4 * i + j]) (sq_of (eB _ _ ha)) (at_of (show 4 * (i : Int) + (j : Int) = ((4 * i + j : Nat) : Int) by push_cast; rfl) (by rw [List.getElem?_map, ek]; rfl)))) (eB _ _ hrow) (by rw [List.length_map, List.length_map, hln, h8]; omega)) fun w2 H2 hw2 e2 h2 => ⟨some (.int (j : Int)), w2, rfl, eB.trans e2, fresh_back eB hw2, ?_, ?_⟩
      · rw [h2, List.range_succ, List.flatMap_append, List.map_append]
        simp
      · rw [List.range_succ, List.flatMap_append, List.length_append, hln]
        simp [h8]
        omega
    · rintro σ' B ⟨y, wl, rfl, eB, hw, hB, _⟩
      refine s_ret (ev_var rfl) fun B1 b1 => q wl B1 hw (eB.trans b1) ?_
      rw [b1 _ _ hB]
      unfold blk
      simp [List.range_succ]
theorem ok_lpb {f fW : Addr} {fd fdW : FuncData} (F : Fun K "_law_put_block" "_law_put_block" sLpb f fd) (GD_write : FnOk P w K mg base (L2.CX P w) 3 fW fdW ["self", "sector", "words"] (K23D.spWrite c.D CN CO Pw)) (bD_write : Binds K fdW ["self", "sector", "words"] []) (mD_write : Meth K c.D "write" fW) (T : Txt mg) (TD : K23D.Txt mg K c.D) : FnOk P w K mg base CX0 4 f fd ["disk", "number", "words"] (spLpb c.D Pw) := by
  refine F.ok scLpb (fun vs H Q E h => ?_) (fun cdv A outer s H vs Q E hr h => ?_)
  · obtain ⟨G, p, ka, sa, wa, n, d, u, ns, i, rfl, _⟩ := h
    rfl
  · obtain ⟨G, p, ka, sa, wa, n, d, u, ns, i, rfl, D, hu, hl, hnn, hi, pw, bf, hwl, hT, q⟩ := h
    refine ⟨_, (pss_one (ps_for PassesOwn.never rfl (pi_range1 (by rfl) T.range (pa_cons pe_int pa_nil)) (pg_name (i := 3) scLpb.nd rfl (Or.inl rfl)) (pss_one (ps_expr (pe_meth (pv 0) TD.cl mD_write GD_write (hr.mono (by decide)) bD_write .nil passL (pa_cons (pe_op op_add (pe_op op_mul pe_int (pv 1)) (pv 3)) (pa_cons (pe_slice sl_list (pv 2) (po_some (pe_op op_mul pe_int (pv 3))) (po_some (pe_op op_add (pe_op op_mul pe_int (pv 3)) pe_int))) pa_nil))))))), ?_⟩
    refine s_forR1 (n := 4) (ea_cons ev_c ea_nil) ⟨by decide, by decide⟩ (fun j σ' B => ∃ G1 y, σ' = [some (.ref p), some (.int (i : Int)), some (.ref u), y] ∧ DK c.D G1 B p ka sa wa n ⟨d.kept, d.ws ++ wb i ns j, true, none⟩ ∧ St G H G1 B ∧ (∀ a o, H a = some o → a ≠ p → a ≠ sa → a ≠ wa → B a = some o) ∧ B u = some (.lst (ns.map V.int))) (fun B eB => ⟨G, none, rfl, by
      have h := D.ex eB
      have hd : d = ⟨d.kept, d.ws ++ wb i ns 0, true, none⟩ := by
        cases d
        simp only at pw bf
        rw [pw, bf]
        show _ = K23D.Dk.mk _ (_ ++ []) _ _
        rw [List.append_nil]
      rw [hd] at h
      exact h, St.of eB, fun a o h _ _ _ => eB _ _ h, eB _ _ hu⟩) ?_ ?_
    · rintro j σ' B hj ⟨G1, y, rfl, D1, S1, fr1, hu1⟩
      obtain ⟨dx, ho⟩ := D1.o
      obtain ⟨ss, hs1, _⟩ := D1.s
      obtain ⟨tw, hw1, _⟩ := D1.w
      have hn1 := D.n1
      have hsl : ((ns.drop (8 * j)).take 8).length = 8 := by
        rw [List.length_take, List.length_drop, hl]
        omega
      refine s_m2L (ev_var rfl) ho (K23D.d_no ⟨by decide +kernel, by decide +kernel, by decide +kernel, by decide +kernel, by decide +kernel, by decide +kernel⟩) (ev_op (ev_op ev_c (ev_var rfl) (rv_I (.inl ⟨by decide, by decide⟩))) (ev_var rfl) rv_I0) (el_is (ys := ((ns.drop (8 * j)).take 8).map V.int) (el_sl (ev_var rfl) (eo_some (ev_op ev_c (ev_var rfl) (rv_I (.inl ⟨by decide, by decide⟩)))) (eo_some (ev_op (ev_op ev_c (ev_var rfl) (rv_I (.inl ⟨by decide, by decide⟩))) ev_c rv_I0)) (sq_of hu1)) (by
        rw [show (8 : Int) * (j : Int) + 8 = ((8 * j + 8 : Nat) : Int) by push_cast; rfl, show (8 : Int) * (j : Int) = ((8 * j : Nat) : Int) by push_cast; rfl, cut_mid _ (by omega) (by rw [List.length_map]; omega), show 8 * j + 8 - 8 * j = 8 by omega, List.map_take, List.map_drop])) fun v H2 hv e2 h2 => ⟨G1, p, ka, sa, wa, n, _, 4 * (i : Int) + (j : Int), v, _, rfl, D1.ex e2, h2, K23D.kd_ints _, hT.mono S1.g, by
          show (d.ws ++ wb i ns j).length < 100
          unfold wb
          rw [List.length_append, List.length_map, List.length_range]
          omega, (fun z => by rw [z, ho] at hv; cases hv), fun hno => absurd ⟨⟨by omega, by omega⟩, by rw [List.length_map]; exact hsl, K23D.ints_wd fun z hz => hnn z (List.mem_of_mem_drop (List.mem_of_mem_take hz))⟩ hno, fun _ s' ns' hs' hs4 hns h8' hnn' G2 H4 S4 fr4 D4 => ?_, fun hno _ => absurd ⟨rfl, fun z => by cases z⟩ hno⟩
      obtain rfl : s' = 4 * i + j := by omega
      obtain rfl := ints_inj hns
      refine ⟨G2, some (.int (j : Int)), rfl, ?_, S1.trans ((St.of (G := G1) e2).trans S4), fun a o h n1 n2 n3 => fr4 _ _ (e2 _ _ (fr1 a o h n1 n2 n3)) n1 n2 n3, fr4 _ _ (e2 _ _ hu1) (ne_of hu1 ho (by intro z; cases z)) (ne_of hu1 hs1 (ir_ne (by omega))) (ne_of hu1 hw1 (ir_ne (by omega)))⟩
      have hw : d.ws ++ wb i ns (j + 1) = (d.ws ++ wb i ns j) ++ [(4 * i + j, (ns.drop (8 * j)).take 8)] := by
        unfold wb
        rw [List.range_succ, List.map_append, List.append_assoc]
        rfl
      rw [hw]
      exact D4
    · rintro σ' B ⟨G1, y, rfl, D1, S1, fr1, hu1⟩
      exact q G1 B S1 fr1 D1
end

end K23

set_option Elab.async false
set_option linter.all false
set_option maxRecDepth 100000
set_option maxHeartbeats 4000000
namespace K23
open PySem PySem.Spec PyProof.Rows L2 Evl LK LT LG LS LQ LX LO LN LP LH LV LZ LW StX LD
open K23D (DK Dk St)
open K23S (fr cv hv headV used In flds)
section
variable {P : Program} {w : World} {K : PySem.W.Frag} {mg : Str → Option Value} {base : Heap} {c : Cc} {CN CO CE Pw : Addr}
theorem ok_ldue {f : Addr} {fd : FuncData} (F : Fun K "_law_due" "_law_due" sDue f fd) (T : Txt mg) : FnOk P w K mg base CX0 1 f fd ["numbers", "held", "act", "number"] spLdue := by
  refine F.ok scDue (fun vs H Q E h => ?_) (fun cdv A outer s H vs Q E hr h => ?_)
  · obtain ⟨na, ha, cs, hs, a, z, o, rfl, _⟩ := h
    rfl
  · obtain ⟨na, ha, cs, hs, a, z, o, rfl, hN, hH, hlc, hlh, hD, q⟩ := h
    refine ⟨_, (pss_cons (ps_if (PW.pt (pw_or (pt_cmpR op_lt (pv 3) pe_int (nomark _)) (pw_or (pt_cmpR op_gt (pv 3) pe_int (nomark _)) (pw_or1 (PW.pt (pw_and (pt_cmpR op_eq (pv 2) pe_str (nomark _)) (pw_and1 (pt_cmpR op_lt (pv 3) pe_int (nomark _))))))))) (pss_one (ps_ret (pe_lst (pa_cons pe_str (pa_cons pe_str pa_nil))))) pss_nil)
      (pss_cons (ps_set (i := 4) scDue.nd rfl (Or.inl rfl) (pe_and (pe_cmpR op_gt (pe_ix ix_list (pv 0) (pv 3) (fun _ _ => rfl)) pe_int (nomark _)) (pe_and (pe_not (pe_ix ix_list (pv 1) (pv 3) (fun _ _ => rfl))) (pe_one (pe_cmpR op_eq (pe_ix ix_list (pv 0) (pv 3) (fun _ _ => rfl)) pe_int (nomark _))))))
      (pss_cons (ps_if (pt_cmpR op_eq (pv 2) pe_str (nomark _)) (pss_one (ps_ret (pv 4))) pss_nil)
      (pss_cons (ps_if (pt_cmpR op_eq (pv 2) pe_str (nomark _)) (pss_one (ps_ret (pe_ix ix_list (pv 0) (pv 3) (fun _ _ => rfl)))) pss_nil)
      (pss_cons (ps_if (pt_cmpR op_eq (pv 2) pe_str (nomark _)) (pss_cons (ps_if (pt_val (pv 4)) (pss_one (ps_ret pe_non)) pss_nil)
      (pss_one (ps_ret (pe_lst (pa_cons pe_str (pa_cons pe_str pa_nil)))))) pss_nil)
      (pss_cons (ps_if (PW.pt (pw_or (pt_cmpR op_eq (pv 2) pe_str (nomark _)) (pw_or1 (pt_cmpR op_eq (pv 2) pe_str (nomark _))))) (pss_cons (ps_if (PW.pt (pw_or (pt_cmpR op_lt (pv 3) pe_int (nomark _)) (pw_or1 (pt_cmpR op_eq (pe_ix ix_list (pv 0) (pv 3) (fun _ _ => rfl)) pe_int (nomark _))))) (pss_one (ps_ret (pe_lst (pa_cons pe_str (pa_cons pe_str pa_nil))))) pss_nil)
      (pss_one (ps_if (pt_cmpR op_eq (pv 2) pe_str (nomark _)) (pss_one (ps_ret (pe_op op_sub (pe_ix ix_list (pv 0) (pv 3) (fun _ _ => rfl)) pe_int))) pss_nil))) pss_nil)
      (pss_one (ps_ret pe_non)))))))), ?_⟩
    have fin : ∀ H2 v, Ex H H2 → IsOut H2 v o → Q v H2 := fun H2 v e1 h => q H2 v e1 h
    cases hD with
    | out h =>
      refine q_when (b := true) (et_is (et_or (et_test (ev_op (ev_var rfl) ev_c rv_I0)) (fun hb => et_or (et_test (ev_op (ev_var rfl) ev_c rv_I0)) (fun hb2 => et_and (et_test (ev_op (ev_var rfl) ev_c (rv_eq rfl))) (fun _ => et_test (ev_op (ev_var rfl) ev_c rv_I0))))) (by
        rcases h with h | h
        · rw [decide_eq_true h]
          rfl
        · rw [decide_eq_true (show z > 95 from h)]
          simp)) (fun _ K0 k0 => ?_) (fun h => by cases h)
      exact s_retL (el_lst (ea_cons ev_c (ea_cons ev_c ea_nil)) (by simp)) fun q H4 hq e4 h4 => fin H4 _ (k0.trans e4) ⟨q, rfl, h4⟩
    | @rlow i h =>
      refine q_when (b := true) (et_is (et_or (et_test (ev_op (ev_var rfl) ev_c rv_I0)) (fun hb => et_or (et_test (ev_op (ev_var rfl) ev_c rv_I0)) (fun hb2 => et_and (et_test (ev_op (ev_var rfl) ev_c (rv_eq rfl))) (fun _ => et_test (ev_op (ev_var rfl) ev_c rv_I0))))) (by
        rw [show decide (V.str "read" = V.str "read") = true from by decide +kernel, decide_eq_true (show (i : Int) < 5 by omega)]
        simp)) (fun _ K0 k0 => ?_) (fun h => by cases h)
      exact s_retL (el_lst (ea_cons ev_c (ea_cons ev_c ea_nil)) (by simp)) fun q H4 hq e4 h4 => fin H4 _ (k0.trans e4) ⟨q, rfl, h4⟩
    | @read i h5 h =>
      refine q_when (b := false) (et_is (et_or (et_test (ev_op (ev_var rfl) ev_c rv_I0)) (fun _ => et_or (et_test (ev_op (ev_var rfl) ev_c rv_I0)) (fun _ => et_and (et_test (ev_op (ev_var rfl) ev_c (rv_eq rfl))) (fun _ => et_test (ev_op (ev_var rfl) ev_c rv_I0))))) (by
        rw [show decide (V.str "read" = V.str "read") = true from by decide +kernel]
        simp
        omega)) (fun h => by cases h) (fun _ K0 k0 => ?_)
      have hNi : ∀ {B : Hp}, Ex K0 B → B na = some (.lst (cs.map V.int)) := fun e => e _ _ (k0 _ _ hN)
      have hHi : ∀ {B : Hp}, Ex K0 B → B ha = some (.lst (hs.map V.bl)) := fun e => e _ _ (k0 _ _ hH)
      have nmb : ∀ {B : Hp} {σ : L2.St}, Ex K0 B → σ[0]? = some (some (.ref na)) → σ[3]? = some (some (.int (i : Int))) → Ev (tOp (rIxL K) (tVar 0) (tVar 3)) σ B (.int (cv cs i)) := fun e h0 h3 => ev_op (ev_var h0) (ev_var h3) (rv_ixL (sq_of (hNi e)) (atI_nat (K23S.cv_at (by omega))))
      refine q_asg (v := .bl (nw cs hs i)) (ev_andV (ev_op (nmb (Ex.refl _) rfl rfl) ev_c rv_I0) (fun _ => ev_andV (ev_notV (ev_op (ev_var rfl) (ev_var rfl) (rv_ixL (sq_of (hHi (Ex.refl _))) (atI_nat (K23S.hv_at (by omega)))))) (fun _ => ev_op (nmb (Ex.refl _) rfl rfl) ev_c (rv_eq rfl)))) fun K1 k1 => ?_
      refine q_when (b := false) (et_is (et_test (ev_op (ev_var rfl) ev_c (rv_eq rfl))) (by decide +kernel)) (fun h => by cases h) (fun _ K2 k2 => ?_)
      refine q_when (b := false) (et_is (et_test (ev_op (ev_var rfl) ev_c (rv_eq rfl))) (by decide +kernel)) (fun h => by cases h) (fun _ K3 k3 => ?_)
      refine q_when (b := false) (et_is (et_test (ev_op (ev_var rfl) ev_c (rv_eq rfl))) (by decide +kernel)) (fun h => by cases h) (fun _ K4 k4 => ?_)
      refine q_when (b := false) (et_is (et_or (et_test (ev_op (ev_var rfl) ev_c (rv_eq rfl))) (fun _ => et_test (ev_op (ev_var rfl) ev_c (rv_eq rfl)))) (by decide +kernel)) (fun h => by cases h) (fun _ K5 k5 => ?_)
      exact s_ret (ev_c) fun H4 e4 => fin H4 _ ((((((k0.trans k1).trans k2).trans k3).trans k4).trans k5).trans e4) rfl
    | @new i h =>
      refine q_when (b := false) (et_is (et_or (et_test (ev_op (ev_var rfl) ev_c rv_I0)) (fun _ => et_or (et_test (ev_op (ev_var rfl) ev_c rv_I0)) (fun _ => et_and (et_test (ev_op (ev_var rfl) ev_c (rv_eq rfl))) (fun _ => et_test (ev_op (ev_var rfl) ev_c rv_I0))))) (by
        rw [show decide (V.str "new" = V.str "read") = false from by decide +kernel]
        simp
        omega)) (fun h => by cases h) (fun _ K0 k0 => ?_)
      have hNi : ∀ {B : Hp}, Ex K0 B → B na = some (.lst (cs.map V.int)) := fun e => e _ _ (k0 _ _ hN)
      have hHi : ∀ {B : Hp}, Ex K0 B → B ha = some (.lst (hs.map V.bl)) := fun e => e _ _ (k0 _ _ hH)
      have nmb : ∀ {B : Hp} {σ : L2.St}, Ex K0 B → σ[0]? = some (some (.ref na)) → σ[3]? = some (some (.int (i : Int))) → Ev (tOp (rIxL K) (tVar 0) (tVar 3)) σ B (.int (cv cs i)) := fun e h0 h3 => ev_op (ev_var h0) (ev_var h3) (rv_ixL (sq_of (hNi e)) (atI_nat (K23S.cv_at (by omega))))
      refine q_asg (v := .bl (nw cs hs i)) (ev_andV (ev_op (nmb (Ex.refl _) rfl rfl) ev_c rv_I0) (fun _ => ev_andV (ev_notV (ev_op (ev_var rfl) (ev_var rfl) (rv_ixL (sq_of (hHi (Ex.refl _))) (atI_nat (K23S.hv_at (by omega)))))) (fun _ => ev_op (nmb (Ex.refl _) rfl rfl) ev_c (rv_eq rfl)))) fun K1 k1 => ?_
      refine q_when (b := true) (et_is (et_test (ev_op (ev_var rfl) ev_c (rv_eq rfl))) (by decide +kernel)) (fun _ K2 k2 => ?_) (fun h => by cases h)
      exact s_ret (ev_var rfl) fun H4 e4 => fin H4 _ (((k0.trans k1).trans k2).trans e4) rfl
    | @uses i h =>
      refine q_when (b := false) (et_is (et_or (et_test (ev_op (ev_var rfl) ev_c rv_I0)) (fun _ => et_or (et_test (ev_op (ev_var rfl) ev_c rv_I0)) (fun _ => et_and (et_test (ev_op (ev_var rfl) ev_c (rv_eq rfl))) (fun _ => et_test (ev_op (ev_var rfl) ev_c rv_I0))))) (by
        rw [show decide (V.str "uses" = V.str "read") = false from by decide +kernel]
        simp
        omega)) (fun h => by cases h) (fun _ K0 k0 => ?_)
      have hNi : ∀ {B : Hp}, Ex K0 B → B na = some (.lst (cs.map V.int)) := fun e => e _ _ (k0 _ _ hN)
      have hHi : ∀ {B : Hp}, Ex K0 B → B ha = some (.lst (hs.map V.bl)) := fun e => e _ _ (k0 _ _ hH)
      have nmb : ∀ {B : Hp} {σ : L2.St}, Ex K0 B → σ[0]? = some (some (.ref na)) → σ[3]? = some (some (.int (i : Int))) → Ev (tOp (rIxL K) (tVar 0) (tVar 3)) σ B (.int (cv cs i)) := fun e h0 h3 => ev_op (ev_var h0) (ev_var h3) (rv_ixL (sq_of (hNi e)) (atI_nat (K23S.cv_at (by omega))))
      refine q_asg (v := .bl (nw cs hs i)) (ev_andV (ev_op (nmb (Ex.refl _) rfl rfl) ev_c rv_I0) (fun _ => ev_andV (ev_notV (ev_op (ev_var rfl) (ev_var rfl) (rv_ixL (sq_of (hHi (Ex.refl _))) (atI_nat (K23S.hv_at (by omega)))))) (fun _ => ev_op (nmb (Ex.refl _) rfl rfl) ev_c (rv_eq rfl)))) fun K1 k1 => ?_
      refine q_when (b := false) (et_is (et_test (ev_op (ev_var rfl) ev_c (rv_eq rfl))) (by decide +kernel)) (fun h => by cases h) (fun _ K2 k2 => ?_)
      refine q_when (b := true) (et_is (et_test (ev_op (ev_var rfl) ev_c (rv_eq rfl))) (by decide +kernel)) (fun _ K3 k3 => ?_) (fun h => by cases h)
      exact s_ret (nmb ((k1.trans k2).trans k3) rfl rfl) fun H4 e4 => fin H4 _ ((((k0.trans k1).trans k2).trans k3).trans e4) rfl
    | @write i h hn =>
      refine q_when (b := false) (et_is (et_or (et_test (ev_op (ev_var rfl) ev_c rv_I0)) (fun _ => et_or (et_test (ev_op (ev_var rfl) ev_c rv_I0)) (fun _ => et_and (et_test (ev_op (ev_var rfl) ev_c (rv_eq rfl))) (fun _ => et_test (ev_op (ev_var rfl) ev_c rv_I0))))) (by
        rw [show decide (V.str "write" = V.str "read") = false from by decide +kernel]
        simp
        omega)) (fun h => by cases h) (fun _ K0 k0 => ?_)
      have hNi : ∀ {B : Hp}, Ex K0 B → B na = some (.lst (cs.map V.int)) := fun e => e _ _ (k0 _ _ hN)
      have hHi : ∀ {B : Hp}, Ex K0 B → B ha = some (.lst (hs.map V.bl)) := fun e => e _ _ (k0 _ _ hH)
      have nmb : ∀ {B : Hp} {σ : L2.St}, Ex K0 B → σ[0]? = some (some (.ref na)) → σ[3]? = some (some (.int (i : Int))) → Ev (tOp (rIxL K) (tVar 0) (tVar 3)) σ B (.int (cv cs i)) := fun e h0 h3 => ev_op (ev_var h0) (ev_var h3) (rv_ixL (sq_of (hNi e)) (atI_nat (K23S.cv_at (by omega))))
      refine q_asg (v := .bl (nw cs hs i)) (ev_andV (ev_op (nmb (Ex.refl _) rfl rfl) ev_c rv_I0) (fun _ => ev_andV (ev_notV (ev_op (ev_var rfl) (ev_var rfl) (rv_ixL (sq_of (hHi (Ex.refl _))) (atI_nat (K23S.hv_at (by omega)))))) (fun _ => ev_op (nmb (Ex.refl _) rfl rfl) ev_c (rv_eq rfl)))) fun K1 k1 => ?_
      refine q_when (b := false) (et_is (et_test (ev_op (ev_var rfl) ev_c (rv_eq rfl))) (by decide +kernel)) (fun h => by cases h) (fun _ K2 k2 => ?_)
      refine q_when (b := false) (et_is (et_test (ev_op (ev_var rfl) ev_c (rv_eq rfl))) (by decide +kernel)) (fun h => by cases h) (fun _ K3 k3 => ?_)
      refine q_when (b := true) (et_is (et_test (ev_op (ev_var rfl) ev_c (rv_eq rfl))) (by decide +kernel)) (fun _ K4 k4 => ?_) (fun h => by cases h)
      refine q_when (b := true) (et_is (et_B (ev_var rfl)) hn) (fun _ K5 k5 => ?_) (fun h => by cases h)
      exact s_ret (ev_c) fun H4 e4 => fin H4 _ ((((((k0.trans k1).trans k2).trans k3).trans k4).trans k5).trans e4) rfl
    | @write_no i h hn =>
      refine q_when (b := false) (et_is (et_or (et_test (ev_op (ev_var rfl) ev_c rv_I0)) (fun _ => et_or (et_test (ev_op (ev_var rfl) ev_c rv_I0)) (fun _ => et_and (et_test (ev_op (ev_var rfl) ev_c (rv_eq rfl))) (fun _ => et_test (ev_op (ev_var rfl) ev_c rv_I0))))) (by
        rw [show decide (V.str "write" = V.str "read") = false from by decide +kernel]
        simp
        omega)) (fun h => by cases h) (fun _ K0 k0 => ?_)
      have hNi : ∀ {B : Hp}, Ex K0 B → B na = some (.lst (cs.map V.int)) := fun e => e _ _ (k0 _ _ hN)
      have hHi : ∀ {B : Hp}, Ex K0 B → B ha = some (.lst (hs.map V.bl)) := fun e => e _ _ (k0 _ _ hH)
      have nmb : ∀ {B : Hp} {σ : L2.St}, Ex K0 B → σ[0]? = some (some (.ref na)) → σ[3]? = some (some (.int (i : Int))) → Ev (tOp (rIxL K) (tVar 0) (tVar 3)) σ B (.int (cv cs i)) := fun e h0 h3 => ev_op (ev_var h0) (ev_var h3) (rv_ixL (sq_of (hNi e)) (atI_nat (K23S.cv_at (by omega))))
      refine q_asg (v := .bl (nw cs hs i)) (ev_andV (ev_op (nmb (Ex.refl _) rfl rfl) ev_c rv_I0) (fun _ => ev_andV (ev_notV (ev_op (ev_var rfl) (ev_var rfl) (rv_ixL (sq_of (hHi (Ex.refl _))) (atI_nat (K23S.hv_at (by omega)))))) (fun _ => ev_op (nmb (Ex.refl _) rfl rfl) ev_c (rv_eq rfl)))) fun K1 k1 => ?_
      refine q_when (b := false) (et_is (et_test (ev_op (ev_var rfl) ev_c (rv_eq rfl))) (by decide +kernel)) (fun h => by cases h) (fun _ K2 k2 => ?_)
      refine q_when (b := false) (et_is (et_test (ev_op (ev_var rfl) ev_c (rv_eq rfl))) (by decide +kernel)) (fun h => by cases h) (fun _ K3 k3 => ?_)
      refine q_when (b := true) (et_is (et_test (ev_op (ev_var rfl) ev_c (rv_eq rfl))) (by decide +kernel)) (fun _ K4 k4 => ?_) (fun h => by cases h)
      refine q_when (b := false) (et_is (et_B (ev_var rfl)) hn) (fun h => by cases h) (fun _ K5 k5 => ?_)
      exact s_retL (el_lst (ea_cons ev_c (ea_cons ev_c ea_nil)) (by simp)) fun q H4 hq e4 h4 => fin H4 _ ((((((k0.trans k1).trans k2).trans k3).trans k4).trans k5).trans e4) ⟨q, rfl, h4⟩
    | @share i h h5 h0 =>
      refine q_when (b := false) (et_is (et_or (et_test (ev_op (ev_var rfl) ev_c rv_I0)) (fun _ => et_or (et_test (ev_op (ev_var rfl) ev_c rv_I0)) (fun _ => et_and (et_test (ev_op (ev_var rfl) ev_c (rv_eq rfl))) (fun _ => et_test (ev_op (ev_var rfl) ev_c rv_I0))))) (by
        rw [show decide (V.str "share" = V.str "read") = false from by decide +kernel]
        simp
        omega)) (fun h => by cases h) (fun _ K0 k0 => ?_)
      have hNi : ∀ {B : Hp}, Ex K0 B → B na = some (.lst (cs.map V.int)) := fun e => e _ _ (k0 _ _ hN)
      have hHi : ∀ {B : Hp}, Ex K0 B → B ha = some (.lst (hs.map V.bl)) := fun e => e _ _ (k0 _ _ hH)
      have nmb : ∀ {B : Hp} {σ : L2.St}, Ex K0 B → σ[0]? = some (some (.ref na)) → σ[3]? = some (some (.int (i : Int))) → Ev (tOp (rIxL K) (tVar 0) (tVar 3)) σ B (.int (cv cs i)) := fun e h0 h3 => ev_op (ev_var h0) (ev_var h3) (rv_ixL (sq_of (hNi e)) (atI_nat (K23S.cv_at (by omega))))
      refine q_asg (v := .bl (nw cs hs i)) (ev_andV (ev_op (nmb (Ex.refl _) rfl rfl) ev_c rv_I0) (fun _ => ev_andV (ev_notV (ev_op (ev_var rfl) (ev_var rfl) (rv_ixL (sq_of (hHi (Ex.refl _))) (atI_nat (K23S.hv_at (by omega)))))) (fun _ => ev_op (nmb (Ex.refl _) rfl rfl) ev_c (rv_eq rfl)))) fun K1 k1 => ?_
      refine q_when (b := false) (et_is (et_test (ev_op (ev_var rfl) ev_c (rv_eq rfl))) (by decide +kernel)) (fun h => by cases h) (fun _ K2 k2 => ?_)
      refine q_when (b := false) (et_is (et_test (ev_op (ev_var rfl) ev_c (rv_eq rfl))) (by decide +kernel)) (fun h => by cases h) (fun _ K3 k3 => ?_)
      refine q_when (b := false) (et_is (et_test (ev_op (ev_var rfl) ev_c (rv_eq rfl))) (by decide +kernel)) (fun h => by cases h) (fun _ K4 k4 => ?_)
      refine q_when (b := true) (et_is (et_or (et_test (ev_op (ev_var rfl) ev_c (rv_eq rfl))) (fun _ => et_test (ev_op (ev_var rfl) ev_c (rv_eq rfl)))) (by decide +kernel)) (fun _ K5 k5 => ?_) (fun h => by cases h)
      refine q_when (b := false) (et_is (et_or (et_test (ev_op (ev_var rfl) ev_c rv_I0)) (fun _ => et_test (ev_op (nmb ((((k1.trans k2).trans k3).trans k4).trans k5) rfl rfl) ev_c (rv_eq rfl)))) (by
        rw [decide_eq_false (show ¬ (i : Int) < 5 by omega), decide_eq_false (fun e => h0 (V.int.inj e))]
        rfl)) (fun h => by cases h) (fun _ K6 k6 => ?_)
      refine s_when (b := false) (et_is (et_test (ev_op (ev_var rfl) ev_c (rv_eq rfl))) (by decide +kernel)) (fun h => by cases h) (fun _ K7 k7 => ?_)
      dsimp only
      exact s_ret (ev_c) fun H4 e4 => fin H4 _ ((((((((k0.trans k1).trans k2).trans k3).trans k4).trans k5).trans k6).trans k7).trans e4) rfl
    | @share_no i h hb =>
      refine q_when (b := false) (et_is (et_or (et_test (ev_op (ev_var rfl) ev_c rv_I0)) (fun _ => et_or (et_test (ev_op (ev_var rfl) ev_c rv_I0)) (fun _ => et_and (et_test (ev_op (ev_var rfl) ev_c (rv_eq rfl))) (fun _ => et_test (ev_op (ev_var rfl) ev_c rv_I0))))) (by
        rw [show decide (V.str "share" = V.str "read") = false from by decide +kernel]
        simp
        omega)) (fun h => by cases h) (fun _ K0 k0 => ?_)
      have hNi : ∀ {B : Hp}, Ex K0 B → B na = some (.lst (cs.map V.int)) := fun e => e _ _ (k0 _ _ hN)
      have hHi : ∀ {B : Hp}, Ex K0 B → B ha = some (.lst (hs.map V.bl)) := fun e => e _ _ (k0 _ _ hH)
      have nmb : ∀ {B : Hp} {σ : L2.St}, Ex K0 B → σ[0]? = some (some (.ref na)) → σ[3]? = some (some (.int (i : Int))) → Ev (tOp (rIxL K) (tVar 0) (tVar 3)) σ B (.int (cv cs i)) := fun e h0 h3 => ev_op (ev_var h0) (ev_var h3) (rv_ixL (sq_of (hNi e)) (atI_nat (K23S.cv_at (by omega))))
      refine q_asg (v := .bl (nw cs hs i)) (ev_andV (ev_op (nmb (Ex.refl _) rfl rfl) ev_c rv_I0) (fun _ => ev_andV (ev_notV (ev_op (ev_var rfl) (ev_var rfl) (rv_ixL (sq_of (hHi (Ex.refl _))) (atI_nat (K23S.hv_at (by omega)))))) (fun _ => ev_op (nmb (Ex.refl _) rfl rfl) ev_c (rv_eq rfl)))) fun K1 k1 => ?_
      refine q_when (b := false) (et_is (et_test (ev_op (ev_var rfl) ev_c (rv_eq rfl))) (by decide +kernel)) (fun h => by cases h) (fun _ K2 k2 => ?_)
      refine q_when (b := false) (et_is (et_test (ev_op (ev_var rfl) ev_c (rv_eq rfl))) (by decide +kernel)) (fun h => by cases h) (fun _ K3 k3 => ?_)
      refine q_when (b := false) (et_is (et_test (ev_op (ev_var rfl) ev_c (rv_eq rfl))) (by decide +kernel)) (fun h => by cases h) (fun _ K4 k4 => ?_)
      refine q_when (b := true) (et_is (et_or (et_test (ev_op (ev_var rfl) ev_c (rv_eq rfl))) (fun _ => et_test (ev_op (ev_var rfl) ev_c (rv_eq rfl)))) (by decide +kernel)) (fun _ K5 k5 => ?_) (fun h => by cases h)
      refine q_when (b := true) (et_is (et_or (et_test (ev_op (ev_var rfl) ev_c rv_I0)) (fun _ => et_test (ev_op (nmb ((((k1.trans k2).trans k3).trans k4).trans k5) rfl rfl) ev_c (rv_eq rfl)))) (by
        rcases hb with hb | hb
        · rw [decide_eq_true (show (i : Int) < 5 by omega)]
          rfl
        · rw [hb]
          simp)) (fun _ K6 k6 => ?_) (fun h => by cases h)
      exact s_retL (el_lst (ea_cons ev_c (ea_cons ev_c ea_nil)) (by simp)) fun q H4 hq e4 h4 => fin H4 _ (((((((k0.trans k1).trans k2).trans k3).trans k4).trans k5).trans k6).trans e4) ⟨q, rfl, h4⟩
    | @drop i h h5 h0 =>
      refine q_when (b := false) (et_is (et_or (et_test (ev_op (ev_var rfl) ev_c rv_I0)) (fun _ => et_or (et_test (ev_op (ev_var rfl) ev_c rv_I0)) (fun _ => et_and (et_test (ev_op (ev_var rfl) ev_c (rv_eq rfl))) (fun _ => et_test (ev_op (ev_var rfl) ev_c rv_I0))))) (by
        rw [show decide (V.str "drop" = V.str "read") = false from by decide +kernel]
        simp
        omega)) (fun h => by cases h) (fun _ K0 k0 => ?_)
      have hNi : ∀ {B : Hp}, Ex K0 B → B na = some (.lst (cs.map V.int)) := fun e => e _ _ (k0 _ _ hN)
      have hHi : ∀ {B : Hp}, Ex K0 B → B ha = some (.lst (hs.map V.bl)) := fun e => e _ _ (k0 _ _ hH)
      have nmb : ∀ {B : Hp} {σ : L2.St}, Ex K0 B → σ[0]? = some (some (.ref na)) → σ[3]? = some (some (.int (i : Int))) → Ev (tOp (rIxL K) (tVar 0) (tVar 3)) σ B (.int (cv cs i)) := fun e h0 h3 => ev_op (ev_var h0) (ev_var h3) (rv_ixL (sq_of (hNi e)) (atI_nat (K23S.cv_at (by omega))))
      refine q_asg (v := .bl (nw cs hs i)) (ev_andV (ev_op (nmb (Ex.refl _) rfl rfl) ev_c rv_I0) (fun _ => ev_andV (ev_notV (ev_op (ev_var rfl) (ev_var rfl) (rv_ixL (sq_of (hHi (Ex.refl _))) (atI_nat (K23S.hv_at (by omega)))))) (fun _ => ev_op (nmb (Ex.refl _) rfl rfl) ev_c (rv_eq rfl)))) fun K1 k1 => ?_
      refine q_when (b := false) (et_is (et_test (ev_op (ev_var rfl) ev_c (rv_eq rfl))) (by decide +kernel)) (fun h => by cases h) (fun _ K2 k2 => ?_)
      refine q_when (b := false) (et_is (et_test (ev_op (ev_var rfl) ev_c (rv_eq rfl))) (by decide +kernel)) (fun h => by cases h) (fun _ K3 k3 => ?_)
      refine q_when (b := false) (et_is (et_test (ev_op (ev_var rfl) ev_c (rv_eq rfl))) (by decide +kernel)) (fun h => by cases h) (fun _ K4 k4 => ?_)
      refine q_when (b := true) (et_is (et_or (et_test (ev_op (ev_var rfl) ev_c (rv_eq rfl))) (fun _ => et_test (ev_op (ev_var rfl) ev_c (rv_eq rfl)))) (by decide +kernel)) (fun _ K5 k5 => ?_) (fun h => by cases h)
      refine q_when (b := false) (et_is (et_or (et_test (ev_op (ev_var rfl) ev_c rv_I0)) (fun _ => et_test (ev_op (nmb ((((k1.trans k2).trans k3).trans k4).trans k5) rfl rfl) ev_c (rv_eq rfl)))) (by
        rw [decide_eq_false (show ¬ (i : Int) < 5 by omega), decide_eq_false (fun e => h0 (V.int.inj e))]
        rfl)) (fun h => by cases h) (fun _ K6 k6 => ?_)
      refine s_when (b := true) (et_is (et_test (ev_op (ev_var rfl) ev_c (rv_eq rfl))) (by decide +kernel)) (fun _ K7 k7 => ?_) (fun h => by cases h)
      exact s_ret (ev_op (nmb ((((((k1.trans k2).trans k3).trans k4).trans k5).trans k6).trans k7) rfl rfl) ev_c rv_I0) fun H4 e4 => fin H4 _ ((((((((k0.trans k1).trans k2).trans k3).trans k4).trans k5).trans k6).trans k7).trans e4) rfl
    | @drop_no i h hb =>
      refine q_when (b := false) (et_is (et_or (et_test (ev_op (ev_var rfl) ev_c rv_I0)) (fun _ => et_or (et_test (ev_op (ev_var rfl) ev_c rv_I0)) (fun _ => et_and (et_test (ev_op (ev_var rfl) ev_c (rv_eq rfl))) (fun _ => et_test (ev_op (ev_var rfl) ev_c rv_I0))))) (by
        rw [show decide (V.str "drop" = V.str "read") = false from by decide +kernel]
        simp
        omega)) (fun h => by cases h) (fun _ K0 k0 => ?_)
      have hNi : ∀ {B : Hp}, Ex K0 B → B na = some (.lst (cs.map V.int)) := fun e => e _ _ (k0 _ _ hN)
      have hHi : ∀ {B : Hp}, Ex K0 B → B ha = some (.lst (hs.map V.bl)) := fun e => e _ _ (k0 _ _ hH)
      have nmb : ∀ {B : Hp} {σ : L2.St}, Ex K0 B → σ[0]? = some (some (.ref na)) → σ[3]? = some (some (.int (i : Int))) → Ev (tOp (rIxL K) (tVar 0) (tVar 3)) σ B (.int (cv cs i)) := fun e h0 h3 => ev_op (ev_var h0) (ev_var h3) (rv_ixL (sq_of (hNi e)) (atI_nat (K23S.cv_at (by omega))))
      refine q_asg (v := .bl (nw cs hs i)) (ev_andV (ev_op (nmb (Ex.refl _) rfl rfl) ev_c rv_I0) (fun _ => ev_andV (ev_notV (ev_op (ev_var rfl) (ev_var rfl) (rv_ixL (sq_of (hHi (Ex.refl _))) (atI_nat (K23S.hv_at (by omega)))))) (fun _ => ev_op (nmb (Ex.refl _) rfl rfl) ev_c (rv_eq rfl)))) fun K1 k1 => ?_
      refine q_when (b := false) (et_is (et_test (ev_op (ev_var rfl) ev_c (rv_eq rfl))) (by decide +kernel)) (fun h => by cases h) (fun _ K2 k2 => ?_)
      refine q_when (b := false) (et_is (et_test (ev_op (ev_var rfl) ev_c (rv_eq rfl))) (by decide +kernel)) (fun h => by cases h) (fun _ K3 k3 => ?_)
      refine q_when (b := false) (et_is (et_test (ev_op (ev_var rfl) ev_c (rv_eq rfl))) (by decide +kernel)) (fun h => by cases h) (fun _ K4 k4 => ?_)
      refine q_when (b := true) (et_is (et_or (et_test (ev_op (ev_var rfl) ev_c (rv_eq rfl))) (fun _ => et_test (ev_op (ev_var rfl) ev_c (rv_eq rfl)))) (by decide +kernel)) (fun _ K5 k5 => ?_) (fun h => by cases h)
      refine q_when (b := true) (et_is (et_or (et_test (ev_op (ev_var rfl) ev_c rv_I0)) (fun _ => et_test (ev_op (nmb ((((k1.trans k2).trans k3).trans k4).trans k5) rfl rfl) ev_c (rv_eq rfl)))) (by
        rcases hb with hb | hb
        · rw [decide_eq_true (show (i : Int) < 5 by omega)]
          rfl
        · rw [hb]
          simp)) (fun _ K6 k6 => ?_) (fun h => by cases h)
      exact s_retL (el_lst (ea_cons ev_c (ea_cons ev_c ea_nil)) (by simp)) fun q H4 hq e4 h4 => fin H4 _ (((((((k0.trans k1).trans k2).trans k3).trans k4).trans k5).trans k6).trans e4) ⟨q, rfl, h4⟩
end

end K23

set_option Elab.async false
set_option linter.all false
set_option maxRecDepth 100000
set_option maxHeartbeats 4000000
namespace K23D
open PySem PySem.Spec PyProof.Rows L2 Evl LK LT LG LS LQ LX LO LN LP
def spAreT : Sp := fun vs H Q _ => ∃ (a : Addr) (xs : List V) (many : Int), vs = [.ref a, .int many] ∧ H a = some (.tup xs) ∧ RetV (.bl false) H Q
section
variable {P : Program} {w : World} {K : PySem.W.Frag} {mg : Str → Option Value} {base : Heap} {C : Addr}
theorem ok_areT {f c Pt fI : Addr} {fd fdI : FuncData} (F : FunC K "are_words" "are_words" sAre f fd c) (TB : LamX.TabB base mg c Pt) (T : Txt mg K C) (FI : Fun K "is_word" "is_word" sIw fI fdI) (bI : Binds K fdI ["value"] []) (gI : mg "is_word" = some (.ref fI)) : FnOk P w K mg base CX0 1 f fd ["values", "many"] spAreT := by
  refine F.ok scAre (fun vs H Q E h => ?_) (fun A outer s H vs Q E hr h => ?_)
  · obtain ⟨a, xs, m, rfl, _⟩ := h
    rfl
  · refine ⟨_, (pss_cons (ps_if (PW.pt (pw_or (pt_not (pt_val (pe_callB call_isi (by rfl) T.isinstance (by decide +kernel) (pa_cons (pv 0) (pa_cons (pe_bltn (v := .ty "list") (u := .type "list") (by rfl) T.list (by decide +kernel) rfl) pa_nil))))) (pw_or1 (pt_cmpR op_ne (pe_callB call_len_seq (by rfl) T.len (by decide +kernel) (pa_cons (pv 0) pa_nil)) (pv 1) (nomark _))))) (pss_one (ps_ret pe_bl)) pss_nil)
      (pss_one (ps_ret (pe_all hr (by rfl) T.all (by decide +kernel) TB rfl ⟨rfl, rfl, by decide +kernel, rfl, rfl, fun y hy e => absurd e ((by decide +kernel : ∀ y ∈ _, y.2 ≠ NameKind.free) y hy)⟩ (pv 0) (fun _ => rfl))))), ?_⟩
    obtain ⟨a, xs, m, rfl, ha, q⟩ := h
    refine q_when (b := true) (et_is (et_or (a := true) (b := false) (et_not (et_B (ev_isk (ev_var rfl) ev_c (.tup ha) (kd_list (.tup ha))))) (fun h => by cases h)) rfl) (fun _ H1 e1 => ?_) (fun h => by cases h)
    exact s_ret ev_c fun H2 e2 => q H2 (e1.trans e2)
end
end K23D

set_option Elab.async false
set_option linter.all false
set_option maxRecDepth 100000
set_option maxHeartbeats 4000000
namespace K23
open PySem PySem.Spec PyProof.Rows L2 Evl LK LT LG LS LQ LX LO LN LP LH LV LZ LW StX LD
open K23D (DK Dk St)
open K23S (fr cv hv headV used In flds)
def rIsX2 (K : PySem.W.Frag) (D1 D2 a : Addr) (cls : Value) (d : Option Addr) : List V → Hp → VK → Prop := fun xs H Q => rIsX K D1 a cls d xs H Q ∨ rIsX K D2 a cls d xs H Q
theorem call_isX2 {X : Cx} {D1 D2 a : Addr} {oe : Obj} {cls : Value} {d : Option Addr} {pn : List (Addr × Obj)} (C1 : ExcC X.K D1) (C2 : ExcC X.K D2) (hz : Zc cls d oe) (hf : ∃ vs, oe.data = .fields vs) : CallR (X.suite a ((a, oe) :: pn)) (.builtin "isinstance") (rIsX2 X.K D1 D2 a cls d) := by
  intro pins s σ H xs us Q I r h
  rcases h with h | h
  · exact call_isX C1 hz hf pins s σ H xs us Q I r h
  · exact call_isX C2 hz hf pins s σ H xs us Q I r h
theorem ev_isXl {K : PySem.W.Frag} {D1 D2 a C : Addr} {σ : L2.St} {H : Hp} {ta tb : TE} {b : Bool} (h : Ev ta σ H (.ref a)) (hn : Ev tb σ H (.ref C)) (hk : PySem.W.kitOne K (.ref D1) (.ref C) = some b) : Ev (tCB (rIsX2 K D1 D2 a (.ref D1) none) (tCons ta (tCons tb tNil))) σ H (.bl b) :=
  ev_cb (ea_cons h (ea_cons hn ea_nil)) fun H1 e Q q => .inl ⟨rfl, rfl, .ref C, .ref C, b, rfl, fun u hu => hu, hk, q H1 (Ex.refl H1)⟩
theorem ev_isXr {K : PySem.W.Frag} {D1 D2 a C : Addr} {σ : L2.St} {H : Hp} {ta tb : TE} {b : Bool} (h : Ev ta σ H (.ref a)) (hn : Ev tb σ H (.ref C)) (hk : PySem.W.kitOne K (.ref D2) (.ref C) = some b) : Ev (tCB (rIsX2 K D1 D2 a (.ref D2) none) (tCons ta (tCons tb tNil))) σ H (.bl b) :=
  ev_cb (ea_cons h (ea_cons hn ea_nil)) fun H1 e Q q => .inr ⟨rfl, rfl, .ref C, .ref C, b, rfl, fun u hu => hu, hk, q H1 (Ex.refl H1)⟩
theorem fn_or {P : Program} {w : World} {K : PySem.W.Frag} {mg : Str → Option Value} {base : Heap} {CX : CXT} {k : Nat} {f : Addr} {fd : FuncData} {ps : List Str} {sp sp' : Sp} (F : FnOk P w K mg base CX k f fd ps sp) (F' : FnOk P w K mg base CX k f fd ps sp') : FnOk P w K mg base CX k f fd ps (fun vs H Q E => sp vs H Q E ∨ sp' vs H Q E) :=
  ⟨fun vs H Q E h => h.elim (F.len vs H Q E) (F'.len vs H Q E), fun A outer s H args us vs Q E hr e b r h => h.elim (F.run A outer s H args us vs Q E hr e b r) (F'.run A outer s H args us vs Q E hr e b r)⟩
def spMakeT (c : Cc) (CN : Addr) : Sp := fun vs H Q E => ∃ G q k d u xs, vs = [.ref q, .ref u] ∧ ST c G H q k d ∧ H u = some (.tup xs) ∧ ∀ H', Ex H H' → E (.ref CN) none H'
def spWriteT (c : Cc) (CN : Addr) : Sp := fun vs H Q E => ∃ G q k d t z ys u xs, vs = [.ref q, .ref t, .ref u] ∧ ST c G H q k d ∧ H t = some (.tup (.int z :: ys)) ∧ H u = some (.tup xs) ∧ ∀ H', Ex H H' → E (.ref CN) none H'
section
variable {P : Program} {w : World} {K : PySem.W.Frag} {mg : Str → Option Value} {base : Heap} {c : Cc} {CN CO CS CL Pw : Addr}
theorem ok_makeT {f fA fT fG : Addr} {fd fdA fdT fdG : FuncData} (F : Fun K "make" "Store.make" sMake f fd) (FAw : Fun K "are_words" "are_words" K23D.sAre fA fdA) (GAw : FnOk P w K mg base CX0 1 fA fdA ["values", "many"] K23D.spAreT) (bAw : Binds K fdA ["values", "many"] []) (gAw : mg "are_words" = some (.ref fA)) (GStake : FnOk P w K mg base (L2.CX P w) 6 fT fdT ["self", "reserve"] (K23S.spTake c.S CS)) (bStake : Binds K fdT ["self", "reserve"] []) (mStake : Meth K c.S "take" fT)
    (Ggeneration : FnOk P w K mg base CX0 1 fG fdG ["self"] (spGen c)) (bgeneration : Binds K fdG ["self"] []) (mgeneration : Meth K c.T "generation" fG) (T : Txt mg) (TT : TxT mg K c.T) (TS : K23S.Txt mg K c.S) (XN : Xc K mg "NotValid" CN) : FnOk P w K mg base (L2.CX P w) 7 f fd ["self", "words"] (spMakeT c CN) := by
  obtain ⟨_, gBLOCK_WORDS⟩ := T.gBLOCK_WORDS
  refine F.okX scMake (fun vs H Q E h => ?_) (fun cdv A outer s H vs Q E hr h => ?_)
  · obtain ⟨G, q, k, d, u, xs, rfl, _⟩ := h
    rfl
  · obtain ⟨G, q, k, d, u, xs, rfl, S, hu, qN⟩ := h
    refine ⟨_, (pss_cons (ps_if (pt_not (pt_val (pe_call GAw (hr.mono (by decide)) (by rfl) gAw FAw.kp bAw .nil pass0 (pa_cons (pv 1) (pa_cons (pe_glob (v := .int 32) rfl gBLOCK_WORDS ⟨_, rfl⟩) pa_nil))))) (pss_one (ps_raise0 rfl XN (takes_of rfl rfl rfl rfl) (by rfl))) pss_nil)
      (pss_cons (ps_set (i := 2) scMake.nd rfl (Or.inl rfl) (pe_meth (pe_fld (pv 0) rfl) TS.cl mStake GStake (hr.mono (by decide)) bStake .nil (pass_own (takes_of rfl rfl rfl rfl)) (pa_cons (pe_fld (pv 0) rfl) pa_nil)))
      (pss_cons (ps_dput (hu_of hr) (pe_fld (pv 0) rfl) (pv 2) (pe_callTy call_tuple_of (by rfl) T.tuple (by decide +kernel) (pa_cons (pv 1) pa_nil)) (by rfl))
      (pss_one (ps_ret (pe_tup (pa_cons (pv 2) (pa_cons (pe_meth0 (pv 0) TT.cl mgeneration Ggeneration (hr.mono (by decide)) bgeneration .nil pass0) pa_nil)))))))), ?_⟩
    exact q_when (b := true) (et_is (et_not (et_B (ev_call (z := .bl false) (vs := [.ref u, .int 32]) (ea_cons (ev_var rfl) (ea_cons ev_c ea_nil)) (fun H1 e1 Q' q' E' => ⟨u, xs, 32, rfl, e1 _ _ hu, q'⟩)))) rfl) (fun _ H1 e1 => qN H1 e1) (fun h => by cases h)
theorem ok_swriteT {f fA fN : Addr} {fd fdA fdN : FuncData} (F : Fun K "write" "Store.write" sWrite f fd) (FAw : Fun K "are_words" "are_words" K23D.sAre fA fdA) (GAw : FnOk P w K mg base CX0 1 fA fdA ["values", "many"] K23D.spAreT) (bAw : Binds K fdA ["values", "many"] []) (gAw : mg "are_words" = some (.ref fA)) (Gis_new : FnOk P w K mg base (L2.CX P w) 5 fN fdN ["self", "pointer"] (spNew c CN)) (bis_new : Binds K fdN ["self", "pointer"] []) (mis_new : Meth K c.T "is_new" fN) (T : Txt mg) (TT : TxT mg K c.T) (XN : Xc K mg "NotValid" CN) : FnOk P w K mg base (L2.CX P w) 6 f fd ["self", "pointer", "words"] (spWriteT c CN) := by
  obtain ⟨_, gBLOCK_WORDS⟩ := T.gBLOCK_WORDS
  refine F.okX scWrite (fun vs H Q E h => ?_) (fun cdv A outer s H vs Q E hr h => ?_)
  · obtain ⟨G, q, k, d, t, z, ys, u, xs, rfl, _⟩ := h
    rfl
  · obtain ⟨G, q, k, d, t, z, ys, u, xs, rfl, S, ht, hu, qN⟩ := h
    refine ⟨_, (pss_cons (ps_if (PW.pt (pw_or (pt_not (pt_val (pe_meth (pv 0) TT.cl mis_new Gis_new (hr.mono (by decide)) bis_new .nil (pass_own (takes_of rfl rfl rfl rfl)) (pa_cons (pv 1) pa_nil)))) (pw_or1 (pt_not (pt_val (pe_call GAw (hr.mono (by decide)) (by rfl) gAw FAw.kp bAw .nil pass0 (pa_cons (pv 2) (pa_cons (pe_glob (v := .int 32) rfl gBLOCK_WORDS ⟨_, rfl⟩) pa_nil)))))))) (pss_one (ps_raise0 rfl XN (takes_of rfl rfl rfl rfl) (by rfl))) pss_nil)
      (pss_one (ps_dput (hu_of hr) (pe_fld (pv 0) rfl) (pe_ix ix_tup (pv 1) pe_int (fun _ _ => rfl)) (pe_callTy call_tuple_of (by rfl) T.tuple (by decide +kernel) (pa_cons (pv 2) pa_nil)) (by rfl)))), ?_⟩
    obtain ⟨dx, ho⟩ := S.o
    by_cases hz : 0 ≤ z ∧ z < k.n
    · obtain ⟨i, rfl⟩ := Int.eq_ofNat_of_zero_le hz.1
      have hi : i < k.n := by omega
      exact q_when (b := true) (et_is (et_or (et_not (et_B (ev_meth (z := .bl (newB k d i)) (ev_var rfl) ho (tno (.inr (.inr (.inr (.inl rfl))))) (ea_cons (ev_var rfl) ea_nil) (fun H1 e1 Q' q' E' => ⟨G, q, k, d, t, (i : Int), ys, rfl, S.ex e1, e1 _ _ ht, fun j hj hjn => by
        have : i = j := by omega
        subst this
        exact q', fun hn => absurd hz hn⟩)))) (fun _ => et_not (et_B (ev_call (z := .bl false) (vs := [.ref u, .int 32]) (ea_cons (ev_var rfl) (ea_cons ev_c ea_nil)) (fun H1 e1 Q' q' E' => ⟨u, xs, 32, rfl, e1 _ _ hu, q'⟩))))) (by simp)) (fun _ H1 e1 => qN H1 e1) (fun h => by cases h)
    · show tMeth c.T "is_new" (spNew c CN) [] _ (tVar 0) (tCons (tVar 1) tNil) _ H _
      exact m_run (ev_var rfl) ho (tno (.inr (.inr (.inr (.inl rfl))))) (ea_cons (ev_var rfl) ea_nil) fun H1 e1 => ⟨G, q, k, d, t, z, ys, rfl, S.ex e1, e1 _ _ ht, fun i hi hlt => absurd ⟨by omega, by omega⟩ hz, fun hn H2 e2 => qN H2 (e1.trans e2)⟩
end

end K23

set_option Elab.async false
set_option linter.all false
set_option maxRecDepth 100000
set_option maxHeartbeats 4000000
namespace K23
open PySem PySem.Spec PyProof.Rows L2 Evl LK LT LG LS LQ LX LO LN LP LH LV LZ LW StX LD
open K23D (DK Dk St)
open K23S (fr cv hv headV used In flds)
def RefQ (H : Hp) (b : Bool) (Q : VK) : Prop := ∀ t H', H t = none → Ex H H' → H' t = some (.lst [.str "refused", .str (wS b)]) → Q (.ref t) H'
def KdL (H : Hp) (xs : List V) : Prop := ∀ x ∈ xs, ∃ n, K23D.Kd H x n
inductive DoR (c : Cc) (G H : Hp) (q : Addr) (k : Sk) (d : Sd) : Str → V → V → (VK → Prop) → Prop
  | next_no (h : fre k d ≤ d.r) : DoR c G H q k d "next" .non .non (RefQ H true)
  | next {i : Nat} (h : d.r < fre k d) (hv : headV (fr d.cs k.hs false) = .int (i : Int)) : DoR c G H q k d "next" .non .non (fun Q => ∀ t H', H t = none → Ex H H' → H' t = some (.tup [.int (i : Int), .int (k.g + 1)]) → Q (.ref t) H')
  | make_bad {u : Addr} {xs : List V} {pw : V} (hu : H u = some (.lst xs)) (hk : KdL H xs) (huc : u ≠ k.cl) (hn : ¬ okB xs) : DoR c G H q k d "make" pw (.ref u) (RefQ H false)
  | make_tup {u : Addr} {xs : List V} {pw : V} (hu : H u = some (.tup xs)) : DoR c G H q k d "make" pw (.ref u) (RefQ H false)
  | make_no {u : Addr} {ws : List Int} {pw : V} (hu : H u = some (.lst (ws.map V.int))) (h32 : ws.length = 32) (hnn : ∀ z ∈ ws, 0 ≤ z) (huc : u ≠ k.cl) (h : fre k d ≤ d.r) : DoR c G H q k d "make" pw (.ref u) (RefQ H true)
  | make {u : Addr} {ws : List Int} {pw : V} {i : Nat} (hu : H u = some (.lst (ws.map V.int))) (h32 : ws.length = 32) (hnn : ∀ z ∈ ws, 0 ≤ z) (huc : u ≠ k.cl) (h : d.r < fre k d) (hv : headV (fr d.cs k.hs false) = .int (i : Int)) (hi : i < k.n) : DoR c G H q k d "make" pw (.ref u) (fun Q => ∀ G' H1 t, St G H G' H1 → Fm H H1 q k → ST c G' H1 q k { d with cs := d.cs.set i 1, mem := setM d.mem i (some ws) } → H t = none → G' t = some (.tup [.int (i : Int), .int (k.g + 1)]) → Q (.ref t) H1)
  | write_no {t : Addr} {z : Int} {ys : List V} {u : Addr} {xs : List V} (ht : H t = some (.tup (.int z :: ys))) (hu : H u = some (.lst xs)) (hk : KdL H xs) (hn : ¬ (0 ≤ z ∧ z < k.n ∧ newB k d z.toNat = true ∧ okB xs)) : DoR c G H q k d "write" (.ref t) (.ref u) (RefQ H false)
  | write_tup {t : Addr} {z : Int} {ys : List V} {u : Addr} {xs : List V} (ht : H t = some (.tup (.int z :: ys))) (hu : H u = some (.tup xs)) : DoR c G H q k d "write" (.ref t) (.ref u) (RefQ H false)
  | write {t : Addr} {i : Nat} {ys : List V} {u : Addr} {ws : List Int} (ht : H t = some (.tup (.int (i : Int) :: ys))) (hu : H u = some (.lst (ws.map V.int))) (h32 : ws.length = 32) (hnn : ∀ z ∈ ws, 0 ≤ z) (hi : i < k.n) (hw : newB k d i = true) : DoR c G H q k d "write" (.ref t) (.ref u) (fun Q => ∀ G' H1, St G H G' H1 → Fm H H1 q k → ST c G' H1 q k { d with mem := setM d.mem i (some ws) } → Q .non H1)
  | read_no {t : Addr} {z : Int} {ys : List V} {wv : V} (ht : H t = some (.tup (.int z :: ys))) (hn : ¬ (5 ≤ z ∧ z < k.n)) : DoR c G H q k d "read" (.ref t) wv (RefQ H false)
  | read {t : Addr} {i : Nat} {ys : List V} {wv : V} (ht : H t = some (.tup (.int (i : Int) :: ys))) (h5 : 5 ≤ i) (hi : i < k.n) : DoR c G H q k d "read" (.ref t) wv (fun Q => RetL ((cont k d i).map V.int) H Q)
  | share_no {t : Addr} {z : Int} {ys : List V} {wv : V} (ht : H t = some (.tup (.int z :: ys))) (hn : ¬ (0 ≤ z ∧ z < k.n ∧ 5 ≤ z ∧ cv d.cs z.toNat ≠ 0)) : DoR c G H q k d "share" (.ref t) wv (RefQ H false)
  | share {t : Addr} {i : Nat} {ys : List V} {wv : V} (ht : H t = some (.tup (.int (i : Int) :: ys))) (hi : i < k.n) (h5 : 5 ≤ i) (h0 : cv d.cs i ≠ 0) : DoR c G H q k d "share" (.ref t) wv (fun Q => ∀ H1, Fm H H1 q k → ST c G H1 q k { d with cs := d.cs.set i (cv d.cs i + 1) } → Q .non H1)
  | drop_no {t : Addr} {z : Int} {ys : List V} {wv : V} (ht : H t = some (.tup (.int z :: ys))) (hn : ¬ (0 ≤ z ∧ z < k.n ∧ 5 ≤ z ∧ cv d.cs z.toNat ≠ 0)) : DoR c G H q k d "drop" (.ref t) wv (RefQ H false)
  | drop {t : Addr} {i : Nat} {ys : List V} {wv : V} (ht : H t = some (.tup (.int (i : Int) :: ys))) (hi : i < k.n) (h5 : 5 ≤ i) (h0 : cv d.cs i ≠ 0) : DoR c G H q k d "drop" (.ref t) wv (fun Q => ∀ H1, Fm H H1 q k → ST c G H1 q k (dropD d i) → Q (.int (cv d.cs i - 1)) H1)
  | new_no {t : Addr} {z : Int} {ys : List V} {wv : V} (ht : H t = some (.tup (.int z :: ys))) (hn : ¬ (0 ≤ z ∧ z < k.n)) : DoR c G H q k d "new" (.ref t) wv (RefQ H false)
  | new {t : Addr} {i : Nat} {ys : List V} {wv : V} (ht : H t = some (.tup (.int (i : Int) :: ys))) (hi : i < k.n) : DoR c G H q k d "new" (.ref t) wv (fun Q => RetV (.bl (newB k d i)) H Q)
  | uses_no {t : Addr} {z : Int} {ys : List V} {wv : V} (ht : H t = some (.tup (.int z :: ys))) (hn : ¬ (0 ≤ z ∧ z < k.n)) : DoR c G H q k d "uses" (.ref t) wv (RefQ H false)
  | uses {t : Addr} {i : Nat} {ys : List V} {wv : V} (ht : H t = some (.tup (.int (i : Int) :: ys))) (hi : i < k.n) : DoR c G H q k d "uses" (.ref t) wv (fun Q => RetV (.int (cv d.cs i)) H Q)
  | req_no {many : Int} (h : fre k d < many + d.r) : DoR c G H q k d "require" (.int many) .non (RefQ H true)
  | req {many : Int} (h : many + d.r ≤ fre k d) : DoR c G H q k d "require" (.int many) .non (fun Q => RetV .non H Q)
def spLdo (c : Cc) (Pw : Addr) : Sp := fun vs H Q _ => ∃ G q k d act pw wv R, vs = [.ref q, .str act, pw, wv] ∧ ST c G H q k d ∧ Tab H Pw ∧ 0 ≤ d.r ∧ DoR c G H q k d act pw wv R ∧ R Q
section
variable {P : Program} {w : World} {K : PySem.W.Frag} {mg : Str → Option Value} {base : Heap} {c : Cc} {CN CO CS CL Pw : Addr}
theorem ok_ldo {f f1 f2 f3 f4 f5 f6 f7 f8 f9 : Addr} {fd fd1 fd2 fd3 fd4 fd5 fd6 fd7 fd8 fd9 : FuncData} (F : Fun K "_law_do" "_law_do" sDo f fd)
    (Gmake : FnOk P w K mg base (L2.CX P w) 7 f1 fd1 ["self", "words"] (fun vs H Q E => spMake c CN CS Pw vs H Q E ∨ spMakeT c CN vs H Q E)) (bmake : Binds K fd1 ["self", "words"] []) (mmake : Meth K c.T "make" f1)
    (Gnext_pointer : FnOk P w K mg base (L2.CX P w) 6 f2 fd2 ["self"] (spNp c CS)) (bnext_pointer : Binds K fd2 ["self"] []) (mnext_pointer : Meth K c.T "next_pointer" f2)
    (Gwrite : FnOk P w K mg base (L2.CX P w) 6 f3 fd3 ["self", "pointer", "words"] (fun vs H Q E => spWrite c CN Pw vs H Q E ∨ spWriteT c CN vs H Q E)) (bwrite : Binds K fd3 ["self", "pointer", "words"] []) (mwrite : Meth K c.T "write" f3)
    (Gread : FnOk P w K mg base (L2.CX P w) 5 f4 fd4 ["self", "pointer"] (spRead c CN)) (bread : Binds K fd4 ["self", "pointer"] []) (mread : Meth K c.T "read" f4)
    (Gshare : FnOk P w K mg base (L2.CX P w) 5 f5 fd5 ["self", "pointer"] (spShare c CN)) (bshare : Binds K fd5 ["self", "pointer"] []) (mshare : Meth K c.T "share" f5)
    (Gdrop : FnOk P w K mg base (L2.CX P w) 5 f6 fd6 ["self", "pointer"] (spDrop c CN)) (bdrop : Binds K fd6 ["self", "pointer"] []) (mdrop : Meth K c.T "drop" f6)
    (Gis_new : FnOk P w K mg base (L2.CX P w) 5 f7 fd7 ["self", "pointer"] (spNew c CN)) (bis_new : Binds K fd7 ["self", "pointer"] []) (mis_new : Meth K c.T "is_new" f7)
    (Grequire : FnOk P w K mg base (L2.CX P w) 4 f8 fd8 ["self", "many"] (spReq c CS)) (brequire : Binds K fd8 ["self", "many"] []) (mrequire : Meth K c.T "require" f8)
    (Guses : FnOk P w K mg base (L2.CX P w) 4 f9 fd9 ["self", "pointer"] (spUses c CN)) (buses : Binds K fd9 ["self", "pointer"] []) (muses : Meth K c.T "uses" f9)
    (T : Txt mg) (TT : TxT mg K c.T) (XL : Xc K mg "LaminaError" CL) (XS : Xc K mg "NoSpace" CS) (XN : Xc K mg "NotValid" CN) (XCS : ExcC K CS) (XCN : ExcC K CN) (sSL : PySem.W.subIn K (.ref CS) (.ref CL) = some true) (sNL : PySem.W.subIn K (.ref CN) (.ref CL) = some true) (sSS : PySem.W.subIn K (.ref CS) (.ref CS) = some true) (sNS : PySem.W.subIn K (.ref CN) (.ref CS) = some false) (sNN : PySem.W.subIn K (.ref CN) (.ref CN) = some true) : FnOk P w K mg base CX0 8 f fd ["store", "act", "pointer", "words"] (spLdo c Pw) := by
  refine F.ok scDo (fun vs H Q E h => ?_) (fun cdv A outer s H vs Q E hr h => ?_)
  · obtain ⟨G, q, k, d, act, pw, wv, R, rfl, _⟩ := h
    rfl
  · obtain ⟨G, q, k, d, act, pw, wv, R, rfl, S, hT, hr0, hD, qq⟩ := h
    refine ⟨_, (pss_one (ps_try_as (i := 4) rfl rfl scDo.nd rfl rfl ⟨rfl, by decide, .inl XL.g⟩ takes0 (fun W pn xe tk _ => (pss_cons (ps_if (pt_cmpR op_eq (pv 1) pe_str (nomark _)) (pss_one (ps_ret (pe_methA (pv 0) TT.cl mmake Gmake (hr.mono (by decide)) bmake (fun σ => passAt tk σ) (pa_cons (pv 3) pa_nil)))) pss_nil)
      (pss_cons (ps_if (pt_cmpR op_eq (pv 1) pe_str (nomark _)) (pss_one (ps_ret (pe_methA0 (pv 0) TT.cl mnext_pointer Gnext_pointer (hr.mono (by decide)) bnext_pointer (fun σ => passAt tk σ)))) pss_nil)
      (pss_cons (ps_if (pt_cmpR op_eq (pv 1) pe_str (nomark _)) (pss_one (ps_ret (pe_methA (pv 0) TT.cl mwrite Gwrite (hr.mono (by decide)) bwrite (fun σ => passAt tk σ) (pa_cons (pv 2) (pa_cons (pv 3) pa_nil))))) pss_nil)
      (pss_cons (ps_if (pt_cmpR op_eq (pv 1) pe_str (nomark _)) (pss_one (ps_ret (pe_methA (pv 0) TT.cl mread Gread (hr.mono (by decide)) bread (fun σ => passAt tk σ) (pa_cons (pv 2) pa_nil)))) pss_nil)
      (pss_cons (ps_if (pt_cmpR op_eq (pv 1) pe_str (nomark _)) (pss_one (ps_ret (pe_methA (pv 0) TT.cl mshare Gshare (hr.mono (by decide)) bshare (fun σ => passAt tk σ) (pa_cons (pv 2) pa_nil)))) pss_nil)
      (pss_cons (ps_if (pt_cmpR op_eq (pv 1) pe_str (nomark _)) (pss_one (ps_ret (pe_methA (pv 0) TT.cl mdrop Gdrop (hr.mono (by decide)) bdrop (fun σ => passAt tk σ) (pa_cons (pv 2) pa_nil)))) pss_nil)
      (pss_cons (ps_if (pt_cmpR op_eq (pv 1) pe_str (nomark _)) (pss_one (ps_ret (pe_methA (pv 0) TT.cl mis_new Gis_new (hr.mono (by decide)) bis_new (fun σ => passAt tk σ) (pa_cons (pv 2) pa_nil)))) pss_nil)
      (pss_cons (ps_if (pt_cmpR op_eq (pv 1) pe_str (nomark _)) (pss_one (ps_ret (pe_methA (pv 0) TT.cl mrequire Grequire (hr.mono (by decide)) brequire (fun σ => passAt tk σ) (pa_cons (pv 2) pa_nil)))) pss_nil)
      (pss_one (ps_ret (pe_methA (pv 0) TT.cl muses Guses (hr.mono (by decide)) buses (fun σ => passAt tk σ) (pa_cons (pv 2) pa_nil))))))))))))) (fun a oe cls d pn hz hf => (pss_cons (ps_if (pt_val (pe_callB (call_isX2 XCS XCN hz hf) (by rfl) T.isinstance (by decide +kernel) (pa_cons (pv 4) (pa_cons (pe_glob (v := .ref CS) rfl XS.g rfl) pa_nil)))) (pss_one (ps_ret (pe_lst (pa_cons pe_str (pa_cons pe_str pa_nil))))) pss_nil)
      (pss_cons (ps_if (pt_val (pe_callB (call_isX2 XCS XCN hz hf) (by rfl) T.isinstance (by decide +kernel) (pa_cons (pv 4) (pa_cons (pe_glob (v := .ref CN) rfl XN.g rfl) pa_nil)))) (pss_one (ps_ret (pe_lst (pa_cons pe_str (pa_cons pe_str pa_nil))))) pss_nil)
      (pss_one (ps_ret (pe_lst (pa_cons pe_str (pa_cons pe_str pa_nil)))))))))), ?_⟩
    cases hD with
    | next_no h =>
      refine q_when (b := false) (et_is (et_test (ev_op (ev_var rfl) ev_c (rv_eq rfl))) (by decide +kernel)) (fun h => by cases h) (fun _ K1 k1 => ?_)
      refine q_when (b := true) (et_is (et_test (ev_op (ev_var rfl) ev_c (rv_eq rfl))) (by decide +kernel)) (fun _ K2 k2 => ?_) (fun h => by cases h)
      have kk := (k1.trans k2)
      have S1 := S.ex kk
      obtain ⟨dx, ho⟩ := S1.o
      exact r_mA (ev_var rfl) ho (tno (.inr (.inr (.inr (.inr (.inr (.inr (.inr (.inr (.inr (.inr (.inl rfl)))))))))))) ea_nil fun H1 e1 => ⟨G, q, k, d, rfl, S1.ex e1, fun hle => absurd hle (by omega), fun hlt H2 e2 => ⟨true, XL.exm sSL, fun _ a ha => q_when (b := true) (et_B (ev_isXl (ev_var rfl) ev_c (XS.kit sSS fun _ => rfl))) (fun _ A2 a2 => s_retL (el_lst (ea_cons ev_c (ea_cons ev_c ea_nil)) (by simp)) fun l A3 hl a3 h3 => qq l A3 (fresh_back (((kk.trans e1).trans e2).trans a2) hl) ((((kk.trans e1).trans e2).trans a2).trans a3) h3) (fun h => by cases h), fun z => nomatch z⟩⟩
    | @next i h hv =>
      refine q_when (b := false) (et_is (et_test (ev_op (ev_var rfl) ev_c (rv_eq rfl))) (by decide +kernel)) (fun h => by cases h) (fun _ K1 k1 => ?_)
      refine q_when (b := true) (et_is (et_test (ev_op (ev_var rfl) ev_c (rv_eq rfl))) (by decide +kernel)) (fun _ K2 k2 => ?_) (fun h => by cases h)
      have kk := (k1.trans k2)
      have S1 := S.ex kk
      obtain ⟨dx, ho⟩ := S1.o
      exact r_mA (ev_var rfl) ho (tno (.inr (.inr (.inr (.inr (.inr (.inr (.inr (.inr (.inr (.inr (.inl rfl)))))))))))) ea_nil fun H1 e1 => ⟨G, q, k, d, rfl, S1.ex e1, fun hle v hv2 t H2 ht e2 h2 => (by
        rw [hv] at hv2
        rw [← hv2] at h2
        exact qq t H2 (fresh_back (kk.trans e1) ht) ((kk.trans e1).trans e2) h2), fun hlt => absurd hlt (by omega)⟩
    | @make_bad u xs pw hu hkd huc hn =>
      refine q_when (b := true) (et_is (et_test (ev_op (ev_var rfl) ev_c (rv_eq rfl))) (by decide +kernel)) (fun _ K1 k1 => ?_) (fun h => by cases h)
      have kk := k1
      have S1 := S.ex kk
      obtain ⟨dx, ho⟩ := S1.o
      exact r_mA (ev_var rfl) ho (tno (.inr (.inr (.inr (.inr (.inr (.inl rfl))))))) (ea_cons (ev_var rfl) ea_nil) fun H1 e1 => .inl ⟨G, q, k, d, u, _, rfl, S1.ex e1, (kk.trans e1) _ _ hu, fun x hx => (let ⟨n, h⟩ := hkd x hx; ⟨n, h.mono (kk.trans e1)⟩), hT.mono (kk.trans e1), hr0, huc, fun _ H2 e2 => ⟨true, XL.exm sNL, fun _ a ha => q_when (b := false) (et_B (ev_isXr (ev_var rfl) ev_c (XS.kit sNS (fun e => by
          cases e
          rw [sSS] at sNS
          cases sNS)))) (fun h => by cases h) (fun _ A1 a1 => q_when (b := true) (et_B (ev_isXr (ev_var rfl) ev_c (XN.kit sNN fun _ => rfl))) (fun _ A2 a2 => s_retL (el_lst (ea_cons ev_c (ea_cons ev_c ea_nil)) (by simp)) fun l A3 hl a3 h3 => qq l A3 (fresh_back ((((kk.trans e1).trans e2).trans a1).trans a2) hl) (((((kk.trans e1).trans e2).trans a1).trans a2).trans a3) h3) (fun h => by cases h)), fun z => nomatch z⟩, fun hok => absurd hok hn, fun ws i e h1 h2 => absurd ⟨ws, e, h1, h2⟩ hn⟩
    | @make_tup u xs pw hu =>
      refine q_when (b := true) (et_is (et_test (ev_op (ev_var rfl) ev_c (rv_eq rfl))) (by decide +kernel)) (fun _ K1 k1 => ?_) (fun h => by cases h)
      have kk := k1
      have S1 := S.ex kk
      obtain ⟨dx, ho⟩ := S1.o
      exact r_mA (ev_var rfl) ho (tno (.inr (.inr (.inr (.inr (.inr (.inl rfl))))))) (ea_cons (ev_var rfl) ea_nil) fun H1 e1 => .inr ⟨G, q, k, d, u, _, rfl, S1.ex e1, (kk.trans e1) _ _ hu, fun H2 e2 => ⟨true, XL.exm sNL, fun _ a ha => q_when (b := false) (et_B (ev_isXr (ev_var rfl) ev_c (XS.kit sNS (fun e => by
          cases e
          rw [sSS] at sNS
          cases sNS)))) (fun h => by cases h) (fun _ A1 a1 => q_when (b := true) (et_B (ev_isXr (ev_var rfl) ev_c (XN.kit sNN fun _ => rfl))) (fun _ A2 a2 => s_retL (el_lst (ea_cons ev_c (ea_cons ev_c ea_nil)) (by simp)) fun l A3 hl a3 h3 => qq l A3 (fresh_back ((((kk.trans e1).trans e2).trans a1).trans a2) hl) (((((kk.trans e1).trans e2).trans a1).trans a2).trans a3) h3) (fun h => by cases h)), fun z => nomatch z⟩⟩
    | @make_no u ws pw hu h32 hnn huc hle =>
      refine q_when (b := true) (et_is (et_test (ev_op (ev_var rfl) ev_c (rv_eq rfl))) (by decide +kernel)) (fun _ K1 k1 => ?_) (fun h => by cases h)
      have kk := k1
      have S1 := S.ex kk
      obtain ⟨dx, ho⟩ := S1.o
      exact r_mA (ev_var rfl) ho (tno (.inr (.inr (.inr (.inr (.inr (.inl rfl))))))) (ea_cons (ev_var rfl) ea_nil) fun H1 e1 => .inl ⟨G, q, k, d, u, _, rfl, S1.ex e1, (kk.trans e1) _ _ hu, K23D.kd_ints _, hT.mono (kk.trans e1), hr0, huc, fun hn => absurd ⟨ws, rfl, h32, hnn⟩ hn, fun _ _ H2 e2 => ⟨true, XL.exm sSL, fun _ a ha => q_when (b := true) (et_B (ev_isXl (ev_var rfl) ev_c (XS.kit sSS fun _ => rfl))) (fun _ A2 a2 => s_retL (el_lst (ea_cons ev_c (ea_cons ev_c ea_nil)) (by simp)) fun l A3 hl a3 h3 => qq l A3 (fresh_back (((kk.trans e1).trans e2).trans a2) hl) ((((kk.trans e1).trans e2).trans a2).trans a3) h3) (fun h => by cases h), fun z => nomatch z⟩, fun _ _ _ _ _ hlt => absurd hlt (by omega)⟩
    | @make u ws pw i hu h32 hnn huc hlt hv hi =>
      refine q_when (b := true) (et_is (et_test (ev_op (ev_var rfl) ev_c (rv_eq rfl))) (by decide +kernel)) (fun _ K1 k1 => ?_) (fun h => by cases h)
      have kk := k1
      have S1 := S.ex kk
      obtain ⟨dx, ho⟩ := S1.o
      exact r_mA (ev_var rfl) ho (tno (.inr (.inr (.inr (.inr (.inr (.inl rfl))))))) (ea_cons (ev_var rfl) ea_nil) fun H1 e1 => .inl ⟨G, q, k, d, u, _, rfl, S1.ex e1, (kk.trans e1) _ _ hu, K23D.kd_ints _, hT.mono (kk.trans e1), hr0, huc, fun hn => absurd ⟨ws, rfl, h32, hnn⟩ hn, fun _ hle => absurd hle (by omega), fun ws2 j hw _ _ _ hv2 _ G' H2 t S2 F2 T2 ht hg => (by
        obtain rfl := ints_inj hw
        rw [hv] at hv2
        have hj : i = j := by
          have := V.int.inj hv2
          omega
        subst hj
        exact qq G' H2 t ((St.of (G := G) (kk.trans e1)).trans S2) ((Fm.of (kk.trans e1)).trans F2) T2 (fresh_back (kk.trans e1) ht) hg)⟩
    | @write_no t z ys u xs ht hu hkd hn =>
      refine q_when (b := false) (et_is (et_test (ev_op (ev_var rfl) ev_c (rv_eq rfl))) (by decide +kernel)) (fun h => by cases h) (fun _ K1 k1 => ?_)
      refine q_when (b := false) (et_is (et_test (ev_op (ev_var rfl) ev_c (rv_eq rfl))) (by decide +kernel)) (fun h => by cases h) (fun _ K2 k2 => ?_)
      refine q_when (b := true) (et_is (et_test (ev_op (ev_var rfl) ev_c (rv_eq rfl))) (by decide +kernel)) (fun _ K3 k3 => ?_) (fun h => by cases h)
      have kk := ((k1.trans k2).trans k3)
      have S1 := S.ex kk
      obtain ⟨dx, ho⟩ := S1.o
      exact r_mA (ev_var rfl) ho (tno (.inr (.inr (.inr (.inr (.inr (.inr (.inl rfl)))))))) (ea_cons (ev_var rfl) (ea_cons (ev_var rfl) ea_nil)) fun H1 e1 => .inl ⟨G, q, k, d, t, z, ys, u, _, rfl, S1.ex e1, (kk.trans e1) _ _ ht, (kk.trans e1) _ _ hu, fun x hx => (let ⟨n, h⟩ := hkd x hx; ⟨n, h.mono (kk.trans e1)⟩), hT.mono (kk.trans e1), fun _ H2 e2 => ⟨true, XL.exm sNL, fun _ a ha => q_when (b := false) (et_B (ev_isXr (ev_var rfl) ev_c (XS.kit sNS (fun e => by
          cases e
          rw [sSS] at sNS
          cases sNS)))) (fun h => by cases h) (fun _ A1 a1 => q_when (b := true) (et_B (ev_isXr (ev_var rfl) ev_c (XN.kit sNN fun _ => rfl))) (fun _ A2 a2 => s_retL (el_lst (ea_cons ev_c (ea_cons ev_c ea_nil)) (by simp)) fun l A3 hl a3 h3 => qq l A3 (fresh_back ((((kk.trans e1).trans e2).trans a1).trans a2) hl) (((((kk.trans e1).trans e2).trans a1).trans a2).trans a3) h3) (fun h => by cases h)), fun z => nomatch z⟩, fun ws i e h1 h2 hz h3 h4 => absurd ⟨by omega, by omega, by rw [hz, Int.toNat_natCast]; exact h4, ws, e, h1, h2⟩ hn⟩
    | @write_tup t z ys u xs ht hu =>
      refine q_when (b := false) (et_is (et_test (ev_op (ev_var rfl) ev_c (rv_eq rfl))) (by decide +kernel)) (fun h => by cases h) (fun _ K1 k1 => ?_)
      refine q_when (b := false) (et_is (et_test (ev_op (ev_var rfl) ev_c (rv_eq rfl))) (by decide +kernel)) (fun h => by cases h) (fun _ K2 k2 => ?_)
      refine q_when (b := true) (et_is (et_test (ev_op (ev_var rfl) ev_c (rv_eq rfl))) (by decide +kernel)) (fun _ K3 k3 => ?_) (fun h => by cases h)
      have kk := ((k1.trans k2).trans k3)
      have S1 := S.ex kk
      obtain ⟨dx, ho⟩ := S1.o
      exact r_mA (ev_var rfl) ho (tno (.inr (.inr (.inr (.inr (.inr (.inr (.inl rfl)))))))) (ea_cons (ev_var rfl) (ea_cons (ev_var rfl) ea_nil)) fun H1 e1 => .inr ⟨G, q, k, d, t, z, ys, u, _, rfl, S1.ex e1, (kk.trans e1) _ _ ht, (kk.trans e1) _ _ hu, fun H2 e2 => ⟨true, XL.exm sNL, fun _ a ha => q_when (b := false) (et_B (ev_isXr (ev_var rfl) ev_c (XS.kit sNS (fun e => by
          cases e
          rw [sSS] at sNS
          cases sNS)))) (fun h => by cases h) (fun _ A1 a1 => q_when (b := true) (et_B (ev_isXr (ev_var rfl) ev_c (XN.kit sNN fun _ => rfl))) (fun _ A2 a2 => s_retL (el_lst (ea_cons ev_c (ea_cons ev_c ea_nil)) (by simp)) fun l A3 hl a3 h3 => qq l A3 (fresh_back ((((kk.trans e1).trans e2).trans a1).trans a2) hl) (((((kk.trans e1).trans e2).trans a1).trans a2).trans a3) h3) (fun h => by cases h)), fun z => nomatch z⟩⟩
    | @write t i ys u ws ht hu h32 hnn hi hw =>
      refine q_when (b := false) (et_is (et_test (ev_op (ev_var rfl) ev_c (rv_eq rfl))) (by decide +kernel)) (fun h => by cases h) (fun _ K1 k1 => ?_)
      refine q_when (b := false) (et_is (et_test (ev_op (ev_var rfl) ev_c (rv_eq rfl))) (by decide +kernel)) (fun h => by cases h) (fun _ K2 k2 => ?_)
      refine q_when (b := true) (et_is (et_test (ev_op (ev_var rfl) ev_c (rv_eq rfl))) (by decide +kernel)) (fun _ K3 k3 => ?_) (fun h => by cases h)
      have kk := ((k1.trans k2).trans k3)
      have S1 := S.ex kk
      obtain ⟨dx, ho⟩ := S1.o
      exact r_mA (ev_var rfl) ho (tno (.inr (.inr (.inr (.inr (.inr (.inr (.inl rfl)))))))) (ea_cons (ev_var rfl) (ea_cons (ev_var rfl) ea_nil)) fun H1 e1 => .inl ⟨G, q, k, d, t, (i : Int), ys, u, _, rfl, S1.ex e1, (kk.trans e1) _ _ ht, (kk.trans e1) _ _ hu, K23D.kd_ints _, hT.mono (kk.trans e1), fun hn => absurd ⟨by omega, by omega, by rw [Int.toNat_natCast]; exact hw, ws, rfl, h32, hnn⟩ hn, fun ws2 j hw2 _ _ hz _ _ G' H2 S2 F2 T2 => (by
        obtain rfl := ints_inj hw2
        have hj : i = j := by omega
        subst hj
        exact qq G' H2 ((St.of (G := G) (kk.trans e1)).trans S2) ((Fm.of (kk.trans e1)).trans F2) T2)⟩
    | @read_no t z ys wv ht hn =>
      refine q_when (b := false) (et_is (et_test (ev_op (ev_var rfl) ev_c (rv_eq rfl))) (by decide +kernel)) (fun h => by cases h) (fun _ K1 k1 => ?_)
      refine q_when (b := false) (et_is (et_test (ev_op (ev_var rfl) ev_c (rv_eq rfl))) (by decide +kernel)) (fun h => by cases h) (fun _ K2 k2 => ?_)
      refine q_when (b := false) (et_is (et_test (ev_op (ev_var rfl) ev_c (rv_eq rfl))) (by decide +kernel)) (fun h => by cases h) (fun _ K3 k3 => ?_)
      refine q_when (b := true) (et_is (et_test (ev_op (ev_var rfl) ev_c (rv_eq rfl))) (by decide +kernel)) (fun _ K4 k4 => ?_) (fun h => by cases h)
      have kk := (((k1.trans k2).trans k3).trans k4)
      have S1 := S.ex kk
      obtain ⟨dx, ho⟩ := S1.o
      exact r_mA (ev_var rfl) ho (tno (.inr (.inr (.inr (.inr (.inl rfl)))))) (ea_cons (ev_var rfl) ea_nil) fun H1 e1 => ⟨G, q, k, d, t, z, ys, rfl, S1.ex e1, (kk.trans e1) _ _ ht, fun j hz h5 hj => absurd ⟨by omega, by omega⟩ hn, fun _ H2 e2 => ⟨true, XL.exm sNL, fun _ a ha => q_when (b := false) (et_B (ev_isXr (ev_var rfl) ev_c (XS.kit sNS (fun e => by
          cases e
          rw [sSS] at sNS
          cases sNS)))) (fun h => by cases h) (fun _ A1 a1 => q_when (b := true) (et_B (ev_isXr (ev_var rfl) ev_c (XN.kit sNN fun _ => rfl))) (fun _ A2 a2 => s_retL (el_lst (ea_cons ev_c (ea_cons ev_c ea_nil)) (by simp)) fun l A3 hl a3 h3 => qq l A3 (fresh_back ((((kk.trans e1).trans e2).trans a1).trans a2) hl) (((((kk.trans e1).trans e2).trans a1).trans a2).trans a3) h3) (fun h => by cases h)), fun z => nomatch z⟩⟩
    | @read t i ys wv ht h5 hi =>
      refine q_when (b := false) (et_is (et_test (ev_op (ev_var rfl) ev_c (rv_eq rfl))) (by decide +kernel)) (fun h => by cases h) (fun _ K1 k1 => ?_)
      refine q_when (b := false) (et_is (et_test (ev_op (ev_var rfl) ev_c (rv_eq rfl))) (by decide +kernel)) (fun h => by cases h) (fun _ K2 k2 => ?_)
      refine q_when (b := false) (et_is (et_test (ev_op (ev_var rfl) ev_c (rv_eq rfl))) (by decide +kernel)) (fun h => by cases h) (fun _ K3 k3 => ?_)
      refine q_when (b := true) (et_is (et_test (ev_op (ev_var rfl) ev_c (rv_eq rfl))) (by decide +kernel)) (fun _ K4 k4 => ?_) (fun h => by cases h)
      have kk := (((k1.trans k2).trans k3).trans k4)
      have S1 := S.ex kk
      obtain ⟨dx, ho⟩ := S1.o
      exact r_mA (ev_var rfl) ho (tno (.inr (.inr (.inr (.inr (.inl rfl)))))) (ea_cons (ev_var rfl) ea_nil) fun H1 e1 => ⟨G, q, k, d, t, (i : Int), ys, rfl, S1.ex e1, (kk.trans e1) _ _ ht, fun j hz _ _ l H2 hl e2 h2 => (by
        have hj : i = j := by omega
        subst hj
        exact qq l H2 (fresh_back (kk.trans e1) hl) ((kk.trans e1).trans e2) h2), fun hn => absurd ⟨by omega, by omega⟩ hn⟩
    | @share_no t z ys wv ht hn =>
      refine q_when (b := false) (et_is (et_test (ev_op (ev_var rfl) ev_c (rv_eq rfl))) (by decide +kernel)) (fun h => by cases h) (fun _ K1 k1 => ?_)
      refine q_when (b := false) (et_is (et_test (ev_op (ev_var rfl) ev_c (rv_eq rfl))) (by decide +kernel)) (fun h => by cases h) (fun _ K2 k2 => ?_)
      refine q_when (b := false) (et_is (et_test (ev_op (ev_var rfl) ev_c (rv_eq rfl))) (by decide +kernel)) (fun h => by cases h) (fun _ K3 k3 => ?_)
      refine q_when (b := false) (et_is (et_test (ev_op (ev_var rfl) ev_c (rv_eq rfl))) (by decide +kernel)) (fun h => by cases h) (fun _ K4 k4 => ?_)
      refine q_when (b := true) (et_is (et_test (ev_op (ev_var rfl) ev_c (rv_eq rfl))) (by decide +kernel)) (fun _ K5 k5 => ?_) (fun h => by cases h)
      have kk := ((((k1.trans k2).trans k3).trans k4).trans k5)
      have S1 := S.ex kk
      obtain ⟨dx, ho⟩ := S1.o
      exact r_mA (ev_var rfl) ho (tno (.inr (.inr (.inr (.inr (.inr (.inr (.inr (.inl rfl))))))))) (ea_cons (ev_var rfl) ea_nil) fun H1 e1 => ⟨G, q, k, d, t, z, ys, rfl, S1.ex e1, (kk.trans e1) _ _ ht, fun j hz h1 h2 h3 => absurd ⟨by omega, by omega, by omega, by rw [hz, Int.toNat_natCast]; exact h3⟩ hn, fun _ H2 e2 => ⟨true, XL.exm sNL, fun _ a ha => q_when (b := false) (et_B (ev_isXr (ev_var rfl) ev_c (XS.kit sNS (fun e => by
          cases e
          rw [sSS] at sNS
          cases sNS)))) (fun h => by cases h) (fun _ A1 a1 => q_when (b := true) (et_B (ev_isXr (ev_var rfl) ev_c (XN.kit sNN fun _ => rfl))) (fun _ A2 a2 => s_retL (el_lst (ea_cons ev_c (ea_cons ev_c ea_nil)) (by simp)) fun l A3 hl a3 h3 => qq l A3 (fresh_back ((((kk.trans e1).trans e2).trans a1).trans a2) hl) (((((kk.trans e1).trans e2).trans a1).trans a2).trans a3) h3) (fun h => by cases h)), fun z => nomatch z⟩⟩
    | @share t i ys wv ht hi h5 h0 =>
      refine q_when (b := false) (et_is (et_test (ev_op (ev_var rfl) ev_c (rv_eq rfl))) (by decide +kernel)) (fun h => by cases h) (fun _ K1 k1 => ?_)
      refine q_when (b := false) (et_is (et_test (ev_op (ev_var rfl) ev_c (rv_eq rfl))) (by decide +kernel)) (fun h => by cases h) (fun _ K2 k2 => ?_)
      refine q_when (b := false) (et_is (et_test (ev_op (ev_var rfl) ev_c (rv_eq rfl))) (by decide +kernel)) (fun h => by cases h) (fun _ K3 k3 => ?_)
      refine q_when (b := false) (et_is (et_test (ev_op (ev_var rfl) ev_c (rv_eq rfl))) (by decide +kernel)) (fun h => by cases h) (fun _ K4 k4 => ?_)
      refine q_when (b := true) (et_is (et_test (ev_op (ev_var rfl) ev_c (rv_eq rfl))) (by decide +kernel)) (fun _ K5 k5 => ?_) (fun h => by cases h)
      have kk := ((((k1.trans k2).trans k3).trans k4).trans k5)
      have S1 := S.ex kk
      obtain ⟨dx, ho⟩ := S1.o
      exact r_mA (ev_var rfl) ho (tno (.inr (.inr (.inr (.inr (.inr (.inr (.inr (.inl rfl))))))))) (ea_cons (ev_var rfl) ea_nil) fun H1 e1 => ⟨G, q, k, d, t, (i : Int), ys, rfl, S1.ex e1, (kk.trans e1) _ _ ht, fun j hz _ _ _ H2 F2 T2 => (by
        have hj : i = j := by omega
        subst hj
        exact qq H2 ((Fm.of (kk.trans e1)).trans F2) T2), fun hn => absurd ⟨by omega, by omega, by omega, by rw [Int.toNat_natCast]; exact h0⟩ hn⟩
    | @drop_no t z ys wv ht hn =>
      refine q_when (b := false) (et_is (et_test (ev_op (ev_var rfl) ev_c (rv_eq rfl))) (by decide +kernel)) (fun h => by cases h) (fun _ K1 k1 => ?_)
      refine q_when (b := false) (et_is (et_test (ev_op (ev_var rfl) ev_c (rv_eq rfl))) (by decide +kernel)) (fun h => by cases h) (fun _ K2 k2 => ?_)
      refine q_when (b := false) (et_is (et_test (ev_op (ev_var rfl) ev_c (rv_eq rfl))) (by decide +kernel)) (fun h => by cases h) (fun _ K3 k3 => ?_)
      refine q_when (b := false) (et_is (et_test (ev_op (ev_var rfl) ev_c (rv_eq rfl))) (by decide +kernel)) (fun h => by cases h) (fun _ K4 k4 => ?_)
      refine q_when (b := false) (et_is (et_test (ev_op (ev_var rfl) ev_c (rv_eq rfl))) (by decide +kernel)) (fun h => by cases h) (fun _ K5 k5 => ?_)
      refine q_when (b := true) (et_is (et_test (ev_op (ev_var rfl) ev_c (rv_eq rfl))) (by decide +kernel)) (fun _ K6 k6 => ?_) (fun h => by cases h)
      have kk := (((((k1.trans k2).trans k3).trans k4).trans k5).trans k6)
      have S1 := S.ex kk
      obtain ⟨dx, ho⟩ := S1.o
      exact r_mA (ev_var rfl) ho (tno (.inr (.inr (.inr (.inr (.inr (.inr (.inr (.inr (.inl rfl)))))))))) (ea_cons (ev_var rfl) ea_nil) fun H1 e1 => ⟨G, q, k, d, t, z, ys, rfl, S1.ex e1, (kk.trans e1) _ _ ht, fun j hz h1 h2 h3 => absurd ⟨by omega, by omega, by omega, by rw [hz, Int.toNat_natCast]; exact h3⟩ hn, fun _ H2 e2 => ⟨true, XL.exm sNL, fun _ a ha => q_when (b := false) (et_B (ev_isXr (ev_var rfl) ev_c (XS.kit sNS (fun e => by
          cases e
          rw [sSS] at sNS
          cases sNS)))) (fun h => by cases h) (fun _ A1 a1 => q_when (b := true) (et_B (ev_isXr (ev_var rfl) ev_c (XN.kit sNN fun _ => rfl))) (fun _ A2 a2 => s_retL (el_lst (ea_cons ev_c (ea_cons ev_c ea_nil)) (by simp)) fun l A3 hl a3 h3 => qq l A3 (fresh_back ((((kk.trans e1).trans e2).trans a1).trans a2) hl) (((((kk.trans e1).trans e2).trans a1).trans a2).trans a3) h3) (fun h => by cases h)), fun z => nomatch z⟩⟩
    | @drop t i ys wv ht hi h5 h0 =>
      refine q_when (b := false) (et_is (et_test (ev_op (ev_var rfl) ev_c (rv_eq rfl))) (by decide +kernel)) (fun h => by cases h) (fun _ K1 k1 => ?_)
      refine q_when (b := false) (et_is (et_test (ev_op (ev_var rfl) ev_c (rv_eq rfl))) (by decide +kernel)) (fun h => by cases h) (fun _ K2 k2 => ?_)
      refine q_when (b := false) (et_is (et_test (ev_op (ev_var rfl) ev_c (rv_eq rfl))) (by decide +kernel)) (fun h => by cases h) (fun _ K3 k3 => ?_)
      refine q_when (b := false) (et_is (et_test (ev_op (ev_var rfl) ev_c (rv_eq rfl))) (by decide +kernel)) (fun h => by cases h) (fun _ K4 k4 => ?_)
      refine q_when (b := false) (et_is (et_test (ev_op (ev_var rfl) ev_c (rv_eq rfl))) (by decide +kernel)) (fun h => by cases h) (fun _ K5 k5 => ?_)
      refine q_when (b := true) (et_is (et_test (ev_op (ev_var rfl) ev_c (rv_eq rfl))) (by decide +kernel)) (fun _ K6 k6 => ?_) (fun h => by cases h)
      have kk := (((((k1.trans k2).trans k3).trans k4).trans k5).trans k6)
      have S1 := S.ex kk
      obtain ⟨dx, ho⟩ := S1.o
      exact r_mA (ev_var rfl) ho (tno (.inr (.inr (.inr (.inr (.inr (.inr (.inr (.inr (.inl rfl)))))))))) (ea_cons (ev_var rfl) ea_nil) fun H1 e1 => ⟨G, q, k, d, t, (i : Int), ys, rfl, S1.ex e1, (kk.trans e1) _ _ ht, fun j hz _ _ _ H2 F2 T2 => (by
        have hj : i = j := by omega
        subst hj
        exact qq H2 ((Fm.of (kk.trans e1)).trans F2) T2), fun hn => absurd ⟨by omega, by omega, by omega, by rw [Int.toNat_natCast]; exact h0⟩ hn⟩
    | @new_no t z ys wv ht hn =>
      refine q_when (b := false) (et_is (et_test (ev_op (ev_var rfl) ev_c (rv_eq rfl))) (by decide +kernel)) (fun h => by cases h) (fun _ K1 k1 => ?_)
      refine q_when (b := false) (et_is (et_test (ev_op (ev_var rfl) ev_c (rv_eq rfl))) (by decide +kernel)) (fun h => by cases h) (fun _ K2 k2 => ?_)
      refine q_when (b := false) (et_is (et_test (ev_op (ev_var rfl) ev_c (rv_eq rfl))) (by decide +kernel)) (fun h => by cases h) (fun _ K3 k3 => ?_)
      refine q_when (b := false) (et_is (et_test (ev_op (ev_var rfl) ev_c (rv_eq rfl))) (by decide +kernel)) (fun h => by cases h) (fun _ K4 k4 => ?_)
      refine q_when (b := false) (et_is (et_test (ev_op (ev_var rfl) ev_c (rv_eq rfl))) (by decide +kernel)) (fun h => by cases h) (fun _ K5 k5 => ?_)
      refine q_when (b := false) (et_is (et_test (ev_op (ev_var rfl) ev_c (rv_eq rfl))) (by decide +kernel)) (fun h => by cases h) (fun _ K6 k6 => ?_)
      refine q_when (b := true) (et_is (et_test (ev_op (ev_var rfl) ev_c (rv_eq rfl))) (by decide +kernel)) (fun _ K7 k7 => ?_) (fun h => by cases h)
      have kk := ((((((k1.trans k2).trans k3).trans k4).trans k5).trans k6).trans k7)
      have S1 := S.ex kk
      obtain ⟨dx, ho⟩ := S1.o
      exact r_mA (ev_var rfl) ho (tno (.inr (.inr (.inr (.inl rfl))))) (ea_cons (ev_var rfl) ea_nil) fun H1 e1 => ⟨G, q, k, d, t, z, ys, rfl, S1.ex e1, (kk.trans e1) _ _ ht, fun j hz h1 => absurd ⟨by omega, by omega⟩ hn, fun _ H2 e2 => ⟨true, XL.exm sNL, fun _ a ha => q_when (b := false) (et_B (ev_isXr (ev_var rfl) ev_c (XS.kit sNS (fun e => by
          cases e
          rw [sSS] at sNS
          cases sNS)))) (fun h => by cases h) (fun _ A1 a1 => q_when (b := true) (et_B (ev_isXr (ev_var rfl) ev_c (XN.kit sNN fun _ => rfl))) (fun _ A2 a2 => s_retL (el_lst (ea_cons ev_c (ea_cons ev_c ea_nil)) (by simp)) fun l A3 hl a3 h3 => qq l A3 (fresh_back ((((kk.trans e1).trans e2).trans a1).trans a2) hl) (((((kk.trans e1).trans e2).trans a1).trans a2).trans a3) h3) (fun h => by cases h)), fun z => nomatch z⟩⟩
    | @new t i ys wv ht hi =>
      refine q_when (b := false) (et_is (et_test (ev_op (ev_var rfl) ev_c (rv_eq rfl))) (by decide +kernel)) (fun h => by cases h) (fun _ K1 k1 => ?_)
      refine q_when (b := false) (et_is (et_test (ev_op (ev_var rfl) ev_c (rv_eq rfl))) (by decide +kernel)) (fun h => by cases h) (fun _ K2 k2 => ?_)
      refine q_when (b := false) (et_is (et_test (ev_op (ev_var rfl) ev_c (rv_eq rfl))) (by decide +kernel)) (fun h => by cases h) (fun _ K3 k3 => ?_)
      refine q_when (b := false) (et_is (et_test (ev_op (ev_var rfl) ev_c (rv_eq rfl))) (by decide +kernel)) (fun h => by cases h) (fun _ K4 k4 => ?_)
      refine q_when (b := false) (et_is (et_test (ev_op (ev_var rfl) ev_c (rv_eq rfl))) (by decide +kernel)) (fun h => by cases h) (fun _ K5 k5 => ?_)
      refine q_when (b := false) (et_is (et_test (ev_op (ev_var rfl) ev_c (rv_eq rfl))) (by decide +kernel)) (fun h => by cases h) (fun _ K6 k6 => ?_)
      refine q_when (b := true) (et_is (et_test (ev_op (ev_var rfl) ev_c (rv_eq rfl))) (by decide +kernel)) (fun _ K7 k7 => ?_) (fun h => by cases h)
      have kk := ((((((k1.trans k2).trans k3).trans k4).trans k5).trans k6).trans k7)
      have S1 := S.ex kk
      obtain ⟨dx, ho⟩ := S1.o
      exact r_mA (ev_var rfl) ho (tno (.inr (.inr (.inr (.inl rfl))))) (ea_cons (ev_var rfl) ea_nil) fun H1 e1 => ⟨G, q, k, d, t, (i : Int), ys, rfl, S1.ex e1, (kk.trans e1) _ _ ht, fun j hz _ H2 e2 => (by
        have hj : i = j := by omega
        subst hj
        exact qq H2 ((kk.trans e1).trans e2)), fun hn => absurd ⟨by omega, by omega⟩ hn⟩
    | @uses_no t z ys wv ht hn =>
      refine q_when (b := false) (et_is (et_test (ev_op (ev_var rfl) ev_c (rv_eq rfl))) (by decide +kernel)) (fun h => by cases h) (fun _ K1 k1 => ?_)
      refine q_when (b := false) (et_is (et_test (ev_op (ev_var rfl) ev_c (rv_eq rfl))) (by decide +kernel)) (fun h => by cases h) (fun _ K2 k2 => ?_)
      refine q_when (b := false) (et_is (et_test (ev_op (ev_var rfl) ev_c (rv_eq rfl))) (by decide +kernel)) (fun h => by cases h) (fun _ K3 k3 => ?_)
      refine q_when (b := false) (et_is (et_test (ev_op (ev_var rfl) ev_c (rv_eq rfl))) (by decide +kernel)) (fun h => by cases h) (fun _ K4 k4 => ?_)
      refine q_when (b := false) (et_is (et_test (ev_op (ev_var rfl) ev_c (rv_eq rfl))) (by decide +kernel)) (fun h => by cases h) (fun _ K5 k5 => ?_)
      refine q_when (b := false) (et_is (et_test (ev_op (ev_var rfl) ev_c (rv_eq rfl))) (by decide +kernel)) (fun h => by cases h) (fun _ K6 k6 => ?_)
      refine q_when (b := false) (et_is (et_test (ev_op (ev_var rfl) ev_c (rv_eq rfl))) (by decide +kernel)) (fun h => by cases h) (fun _ K7 k7 => ?_)
      refine q_when (b := false) (et_is (et_test (ev_op (ev_var rfl) ev_c (rv_eq rfl))) (by decide +kernel)) (fun h => by cases h) (fun _ K8 k8 => ?_)
      have kk := (((((((k1.trans k2).trans k3).trans k4).trans k5).trans k6).trans k7).trans k8)
      have S1 := S.ex kk
      obtain ⟨dx, ho⟩ := S1.o
      exact r_mA (ev_var rfl) ho (tno (.inr (.inr (.inr (.inr (.inr (.inr (.inr (.inr (.inr (.inl rfl))))))))))) (ea_cons (ev_var rfl) ea_nil) fun H1 e1 => ⟨G, q, k, d, t, z, ys, rfl, S1.ex e1, (kk.trans e1) _ _ ht, fun j hz h1 => absurd ⟨by omega, by omega⟩ hn, fun _ H2 e2 => ⟨true, XL.exm sNL, fun _ a ha => q_when (b := false) (et_B (ev_isXr (ev_var rfl) ev_c (XS.kit sNS (fun e => by
          cases e
          rw [sSS] at sNS
          cases sNS)))) (fun h => by cases h) (fun _ A1 a1 => q_when (b := true) (et_B (ev_isXr (ev_var rfl) ev_c (XN.kit sNN fun _ => rfl))) (fun _ A2 a2 => s_retL (el_lst (ea_cons ev_c (ea_cons ev_c ea_nil)) (by simp)) fun l A3 hl a3 h3 => qq l A3 (fresh_back ((((kk.trans e1).trans e2).trans a1).trans a2) hl) (((((kk.trans e1).trans e2).trans a1).trans a2).trans a3) h3) (fun h => by cases h)), fun z => nomatch z⟩⟩
    | @uses t i ys wv ht hi =>
      refine q_when (b := false) (et_is (et_test (ev_op (ev_var rfl) ev_c (rv_eq rfl))) (by decide +kernel)) (fun h => by cases h) (fun _ K1 k1 => ?_)
      refine q_when (b := false) (et_is (et_test (ev_op (ev_var rfl) ev_c (rv_eq rfl))) (by decide +kernel)) (fun h => by cases h) (fun _ K2 k2 => ?_)
      refine q_when (b := false) (et_is (et_test (ev_op (ev_var rfl) ev_c (rv_eq rfl))) (by decide +kernel)) (fun h => by cases h) (fun _ K3 k3 => ?_)
      refine q_when (b := false) (et_is (et_test (ev_op (ev_var rfl) ev_c (rv_eq rfl))) (by decide +kernel)) (fun h => by cases h) (fun _ K4 k4 => ?_)
      refine q_when (b := false) (et_is (et_test (ev_op (ev_var rfl) ev_c (rv_eq rfl))) (by decide +kernel)) (fun h => by cases h) (fun _ K5 k5 => ?_)
      refine q_when (b := false) (et_is (et_test (ev_op (ev_var rfl) ev_c (rv_eq rfl))) (by decide +kernel)) (fun h => by cases h) (fun _ K6 k6 => ?_)
      refine q_when (b := false) (et_is (et_test (ev_op (ev_var rfl) ev_c (rv_eq rfl))) (by decide +kernel)) (fun h => by cases h) (fun _ K7 k7 => ?_)
      refine q_when (b := false) (et_is (et_test (ev_op (ev_var rfl) ev_c (rv_eq rfl))) (by decide +kernel)) (fun h => by cases h) (fun _ K8 k8 => ?_)
      have kk := (((((((k1.trans k2).trans k3).trans k4).trans k5).trans k6).trans k7).trans k8)
      have S1 := S.ex kk
      obtain ⟨dx, ho⟩ := S1.o
      exact r_mA (ev_var rfl) ho (tno (.inr (.inr (.inr (.inr (.inr (.inr (.inr (.inr (.inr (.inl rfl))))))))))) (ea_cons (ev_var rfl) ea_nil) fun H1 e1 => ⟨G, q, k, d, t, (i : Int), ys, rfl, S1.ex e1, (kk.trans e1) _ _ ht, fun j hz _ H2 e2 => (by
        have hj : i = j := by omega
        subst hj
        exact qq H2 ((kk.trans e1).trans e2)), fun hn => absurd ⟨by omega, by omega⟩ hn⟩
    | @req_no many h =>
      refine q_when (b := false) (et_is (et_test (ev_op (ev_var rfl) ev_c (rv_eq rfl))) (by decide +kernel)) (fun h => by cases h) (fun _ K1 k1 => ?_)
      refine q_when (b := false) (et_is (et_test (ev_op (ev_var rfl) ev_c (rv_eq rfl))) (by decide +kernel)) (fun h => by cases h) (fun _ K2 k2 => ?_)
      refine q_when (b := false) (et_is (et_test (ev_op (ev_var rfl) ev_c (rv_eq rfl))) (by decide +kernel)) (fun h => by cases h) (fun _ K3 k3 => ?_)
      refine q_when (b := false) (et_is (et_test (ev_op (ev_var rfl) ev_c (rv_eq rfl))) (by decide +kernel)) (fun h => by cases h) (fun _ K4 k4 => ?_)
      refine q_when (b := false) (et_is (et_test (ev_op (ev_var rfl) ev_c (rv_eq rfl))) (by decide +kernel)) (fun h => by cases h) (fun _ K5 k5 => ?_)
      refine q_when (b := false) (et_is (et_test (ev_op (ev_var rfl) ev_c (rv_eq rfl))) (by decide +kernel)) (fun h => by cases h) (fun _ K6 k6 => ?_)
      refine q_when (b := false) (et_is (et_test (ev_op (ev_var rfl) ev_c (rv_eq rfl))) (by decide +kernel)) (fun h => by cases h) (fun _ K7 k7 => ?_)
      refine q_when (b := true) (et_is (et_test (ev_op (ev_var rfl) ev_c (rv_eq rfl))) (by decide +kernel)) (fun _ K8 k8 => ?_) (fun h => by cases h)
      have kk := (((((((k1.trans k2).trans k3).trans k4).trans k5).trans k6).trans k7).trans k8)
      have S1 := S.ex kk
      obtain ⟨dx, ho⟩ := S1.o
      exact r_mA (ev_var rfl) ho (tno (.inr (.inr (.inl rfl)))) (ea_cons (ev_var rfl) ea_nil) fun H1 e1 => ⟨G, q, k, d, many, rfl, S1.ex e1, fun hle => absurd hle (by omega), fun _ H2 e2 => ⟨true, XL.exm sSL, fun _ a ha => q_when (b := true) (et_B (ev_isXl (ev_var rfl) ev_c (XS.kit sSS fun _ => rfl))) (fun _ A2 a2 => s_retL (el_lst (ea_cons ev_c (ea_cons ev_c ea_nil)) (by simp)) fun l A3 hl a3 h3 => qq l A3 (fresh_back (((kk.trans e1).trans e2).trans a2) hl) ((((kk.trans e1).trans e2).trans a2).trans a3) h3) (fun h => by cases h), fun z => nomatch z⟩⟩
    | @req many h =>
      refine q_when (b := false) (et_is (et_test (ev_op (ev_var rfl) ev_c (rv_eq rfl))) (by decide +kernel)) (fun h => by cases h) (fun _ K1 k1 => ?_)
      refine q_when (b := false) (et_is (et_test (ev_op (ev_var rfl) ev_c (rv_eq rfl))) (by decide +kernel)) (fun h => by cases h) (fun _ K2 k2 => ?_)
      refine q_when (b := false) (et_is (et_test (ev_op (ev_var rfl) ev_c (rv_eq rfl))) (by decide +kernel)) (fun h => by cases h) (fun _ K3 k3 => ?_)
      refine q_when (b := false) (et_is (et_test (ev_op (ev_var rfl) ev_c (rv_eq rfl))) (by decide +kernel)) (fun h => by cases h) (fun _ K4 k4 => ?_)
      refine q_when (b := false) (et_is (et_test (ev_op (ev_var rfl) ev_c (rv_eq rfl))) (by decide +kernel)) (fun h => by cases h) (fun _ K5 k5 => ?_)
      refine q_when (b := false) (et_is (et_test (ev_op (ev_var rfl) ev_c (rv_eq rfl))) (by decide +kernel)) (fun h => by cases h) (fun _ K6 k6 => ?_)
      refine q_when (b := false) (et_is (et_test (ev_op (ev_var rfl) ev_c (rv_eq rfl))) (by decide +kernel)) (fun h => by cases h) (fun _ K7 k7 => ?_)
      refine q_when (b := true) (et_is (et_test (ev_op (ev_var rfl) ev_c (rv_eq rfl))) (by decide +kernel)) (fun _ K8 k8 => ?_) (fun h => by cases h)
      have kk := (((((((k1.trans k2).trans k3).trans k4).trans k5).trans k6).trans k7).trans k8)
      have S1 := S.ex kk
      obtain ⟨dx, ho⟩ := S1.o
      exact r_mA (ev_var rfl) ho (tno (.inr (.inr (.inl rfl)))) (ea_cons (ev_var rfl) ea_nil) fun H1 e1 => ⟨G, q, k, d, many, rfl, S1.ex e1, fun _ H2 e2 => qq H2 ((kk.trans e1).trans e2), fun hlt => absurd hlt (by omega)⟩
end

end K23

set_option Elab.async false
set_option linter.all false
set_option maxRecDepth 100000
set_option maxHeartbeats 4000000
namespace K23
open PySem PySem.Spec PyProof.Rows L2 Evl LK LT LG LS LQ LX LO LN LP LH LV LZ LW StX LD
open K23D (DK Dk St)
open K23S (fr cv hv headV used In flds)
/-! ### between two turns of the law -/
theorem nodup_sub {l m : List Nat} (hl : l.Nodup) (hm : m.Nodup) (h : ∀ x ∈ l, x ∈ m) : l.length ≤ m.length := by
  have hp : l.Perm (m.filter fun x => decide (x ∈ l)) := (List.perm_ext_iff_of_nodup hl (List.Pairwise.filter _ hm)).mpr fun a => by
    rw [List.mem_filter, decide_eq_true_eq]
    exact ⟨fun ha => ⟨h a ha, ha⟩, fun ha => ha.2⟩
  rw [hp.length_eq]
  exact List.length_filter_le _ _
theorem memL_nodup (k : Sk) (d : Sd) : (memL k d).Nodup := List.Pairwise.filter _ List.nodup_range
theorem memL_mem {k : Sk} {d : Sd} {i : Nat} : i ∈ memL k d ↔ i < k.n ∧ d.mem i ≠ none := by
  unfold memL
  rw [List.mem_filter, List.mem_range, Option.isSome_iff_ne_none]
theorem memL_put {k : Sk} {d d' : Sd} {i : Nat} {o : Option (List Int)} (h : d'.mem = setM d.mem i o) : (memL k d').length ≤ (memL k d).length + 1 := by
  have hs : ∀ x ∈ memL k d', x = i ∨ x ∈ memL k d := fun x hx => by
    have hx := memL_mem.mp hx
    rw [h] at hx
    unfold setM at hx
    by_cases e : x = i
    · exact .inl e
    · rw [if_neg e] at hx
      exact .inr (memL_mem.mpr hx)
  by_cases hi : i ∈ memL k d
  · have := nodup_sub (memL_nodup k d') (memL_nodup k d) fun x hx => (hs x hx).elim (fun e => e ▸ hi) id
    omega
  · have := nodup_sub (memL_nodup k d') (m := i :: memL k d) (List.nodup_cons.mpr ⟨hi, memL_nodup k d⟩) fun x hx => (hs x hx).elim (fun e => e ▸ List.mem_cons_self) (List.mem_cons_of_mem _)
    exact this
theorem memL_same {k : Sk} {d d' : Sd} {i : Nat} (h : d'.mem = setM d.mem i none ∨ d'.mem = d.mem) : (memL k d').length ≤ (memL k d).length := nodup_sub (memL_nodup k d') (memL_nodup k d) fun x hx => by
  have hx := memL_mem.mp hx
  rcases h with h | h
  · rw [h] at hx
    unfold setM at hx
    by_cases e : x = i
    · rw [if_pos e] at hx
      exact absurd rfl hx.2
    · rw [if_neg e] at hx
      exact memL_mem.mpr hx
  · rw [h] at hx
    exact memL_mem.mpr hx
theorem ST.upd {c : Cc} {G H H1 : Hp} {q x : Addr} {k : Sk} {d : Sd} (s : ST c G H q k d) (gx : G x = none) (nq : x ≠ q) (nc : x ≠ k.cl) (nm : x ≠ k.m) (nd : x ≠ k.dp ∧ x ≠ k.ka ∧ x ≠ k.sa ∧ x ≠ k.wa) (b : Bx x H H1) : ST c G H1 q k d :=
  ⟨dk_bx s.dk gx nd b, let ⟨dx, h⟩ := s.o; ⟨dx, b _ _ nq.symm h⟩, s.gq, s.h, s.s, b _ _ nc.symm s.c, s.gc, s.hh, s.lc, s.lh, let ⟨kvs, h, m⟩ := s.mm; ⟨kvs, b _ _ nm.symm h, m⟩, s.gm, s.q1, s.c1, s.m1, s.qc, s.qm, s.cm⟩
theorem ints_ne {c : Cc} {G H : Hp} {q x : Addr} {k : Sk} {d : Sd} {ws : List Int} (s : ST c G H q k d) (hx : H x = some (.lst (ws.map V.int))) (hl : 0 < ws.length) : x ≠ q ∧ x ≠ k.m ∧ x ≠ k.dp ∧ x ≠ k.ka ∧ x ≠ k.sa ∧ x ≠ k.wa := by
  obtain ⟨dx, ho⟩ := s.o
  obtain ⟨kvs, hm, _⟩ := s.mm
  obtain ⟨dd, hd⟩ := s.dk.o
  obtain ⟨ks, hk, _⟩ := s.dk.k
  obtain ⟨ss, hs, _⟩ := s.dk.s
  obtain ⟨ts, hw, _⟩ := s.dk.w
  exact ⟨ne_of hx ho (by intro z; cases z), ne_of hx hm (by intro z; cases z), ne_of hx hd (by intro z; cases z), ne_of hx hk (ir_ne hl), ne_of hx hs (ir_ne hl), ne_of hx hw (ir_ne hl)⟩
theorem dict_ne {c : Cc} {G H : Hp} {q x : Addr} {k : Sk} {d : Sd} {kvs : List (Key × V)} (s : ST c G H q k d) (hx : H x = some (.dK kvs)) : x ≠ q ∧ x ≠ k.cl ∧ x ≠ k.dp ∧ x ≠ k.ka ∧ x ≠ k.sa ∧ x ≠ k.wa := by
  obtain ⟨dx, ho⟩ := s.o
  obtain ⟨dd, hd⟩ := s.dk.o
  obtain ⟨ks, hk, _⟩ := s.dk.k
  obtain ⟨ss, hs, _⟩ := s.dk.s
  obtain ⟨ts, hw, _⟩ := s.dk.w
  exact ⟨ne_of hx ho (by intro z; cases z), ne_of hx s.c (by intro z; cases z), ne_of hx hd (by intro z; cases z), ne_of hx hk (by intro z; cases z), ne_of hx hs (by intro z; cases z), ne_of hx hw (by intro z; cases z)⟩
/-- the dict of the contents of the blocks 5 to 95 -/
def CD (G : Hp) (kvs : List (Key × V)) (C : Nat → List Int) (m : Nat) : Prop := kvs.length ≤ 200 + m ∧ ∀ i : Nat, 5 ≤ i → i < 96 → ∃ l, valV kvs (.inl (i : Int)) = some (.ref l) ∧ G l = some (.lst ((C i).map V.int))
theorem CD.ex {G G' : Hp} {kvs : List (Key × V)} {C : Nat → List Int} {m m' : Nat} (h : CD G kvs C m) (e : Ex G G') (hm : m ≤ m') : CD G' kvs C m' := ⟨by have := h.1; omega, fun i h5 h9 => let ⟨l, a, b⟩ := h.2 i h5 h9; ⟨l, a, e _ _ b⟩⟩
theorem CD.put {G : Hp} {kvs : List (Key × V)} {C : Nat → List Int} {m i : Nat} {l : Addr} {ws : List Int} (h : CD G kvs C m) (hl : G l = some (.lst (ws.map V.int))) : CD G (putK kvs (.inl (i : Int)) (.ref l)) (fset C i ws) (m + 1) := by
  refine ⟨Nat.le_trans (length_putK _ _ _) (by have := h.1; omega), fun j h5 h9 => ?_⟩
  rw [valV_put]
  unfold fset
  by_cases e : j = i
  · subst e
    rw [if_pos rfl, if_pos rfl]
    exact ⟨l, rfl, hl⟩
  · rw [if_neg (fun z => e (by have := Sum.inl.inj z; omega)), if_neg e]
    exact h.2 j h5 h9
structure LJ (c : Cc) (G H : Hp) (q : Addr) (k : Sk) (d : Sd) (na ha cd im : Addr) (C : Nat → List Int) (m : Nat) : Prop where
  st : ST c G H q k d
  n96 : k.n = 96
  hna : H na = some (.lst (d.cs.map V.int))
  gn : G na = none
  hha : G ha = some (.lst (k.hs.map V.bl))
  hcd : ∃ kvs, H cd = some (.dK kvs) ∧ CD G kvs C m
  gd : G cd = none
  nc : na ≠ k.cl
  dm : cd ≠ k.m
  him : ImgL G im (4 * 96) k.f
  ct : ∀ i, 5 ≤ i → i < 96 → C i = cont k d i ∧ (C i).length = 32
  mi : ∀ i, i < 96 → (d.mem i ≠ none ↔ (cv d.cs i > 0 ∧ hv k.hs i = false))
  ps : ∀ i, i < 96 → 0 ≤ cv d.cs i
  ml : (memL k d).length ≤ m
theorem ImgL.ex {G G' : Hp} {a : Addr} {n : Nat} {f : Nat → List Int} (h : ImgL G a n f) (e : Ex G G') : ImgL G' a n f := let ⟨ks, h1, h2, h3⟩ := h; ⟨ks, e _ _ h1, h2, fun i x hx => e _ _ (h3 i x hx)⟩
section
variable {c : Cc} {G G' H H1 : Hp} {q na ha cd im : Addr} {k : Sk} {d : Sd} {C : Nat → List Int} {m : Nat}
theorem LJ.len (j : LJ c G H q k d na ha cd im C m) : d.cs.length = 96 ∧ k.hs.length = 96 := ⟨by rw [j.st.lc, j.n96], by rw [j.st.lh, j.n96]⟩
theorem LJ.ex (j : LJ c G H q k d na ha cd im C m) (e : Ex H H1) : LJ c G H1 q k d na ha cd im C m := ⟨j.st.ex e, j.n96, e _ _ j.hna, j.gn, j.hha, let ⟨kvs, a, b⟩ := j.hcd; ⟨kvs, e _ _ a, b⟩, j.gd, j.nc, j.dm, j.him, j.ct, j.mi, j.ps, j.ml⟩
theorem LJ.join (j : LJ c G H q k d na ha cd im C m) (e : Ex H H1) : ∃ G', St G H G' H1 ∧ LJ c G' H1 q k d na ha cd im C m ∧ ∀ a o, H a = none → H1 a = some o → G' a = some o := by
  obtain ⟨G', S, T, new⟩ := j.st.join e
  have j1 := j.ex e
  exact ⟨G', S, ⟨T, j.n96, j1.hna, S.n _ (by rw [j.hna]; exact fun z => by cases z) j.gn, S.g _ _ j.hha, let ⟨kvs, a, b⟩ := j1.hcd; ⟨kvs, a, b.ex S.g (Nat.le_refl _)⟩, S.n _ (by obtain ⟨kvs, a, _⟩ := j.hcd; rw [a]; exact fun z => by cases z) j.gd, j.nc, j.dm, j.him.ex S.g, j.ct, j.mi, j.ps, j.ml⟩, new⟩
/-- the store's own step: what the law holds beside it stays -/
theorem LJ.keep (j : LJ c G H q k d na ha cd im C m) (f : Fm H H1 q k) : H1 na = some (.lst (d.cs.map V.int)) ∧ ∃ kvs, H1 cd = some (.dK kvs) ∧ CD G kvs C m := by
  obtain ⟨kvs, hc, hC⟩ := j.hcd
  have n1 := ints_ne j.st j.hna (by rw [j.len.1]; decide)
  have n2 := dict_ne j.st hc
  exact ⟨f _ _ j.hna n1.1 j.nc n1.2.1, kvs, f _ _ hc n2.1 n2.2.1 j.dm, hC⟩
theorem LJ.setR {r : Int} (j : LJ c G H q k d na ha cd im C m) (f : Fm H H1 q k) (t : ST c G H1 q k { d with r := r }) : LJ c G H1 q k { d with r := r } na ha cd im C m := by
  obtain ⟨a, b⟩ := j.keep f
  exact ⟨t, j.n96, a, j.gn, j.hha, b, j.gd, j.nc, j.dm, j.him, j.ct, j.mi, j.ps, j.ml⟩
end
/-- every act at every number is told by the law -/
theorem due_ex (cs : List Int) (hs : List Bool) {a : Str} (ha : a ∈ acts6) (z : Int) : ∃ o, DueR cs hs a z o := by
  by_cases hz : z < 0 ∨ 95 < z
  · exact ⟨_, .out hz⟩
  obtain ⟨i, rfl⟩ := Int.eq_ofNat_of_zero_le (show 0 ≤ z by omega)
  have hi : i < 96 := by omega
  unfold acts6 at ha
  simp only [List.mem_cons, List.not_mem_nil, or_false] at ha
  rcases ha with rfl | rfl | rfl | rfl | rfl | rfl
  · cases h : nw cs hs i with
    | true => exact ⟨_, .write hi h⟩
    | false => exact ⟨_, .write_no hi h⟩
  · by_cases h5 : i < 5
    · exact ⟨_, .rlow h5⟩
    · exact ⟨_, .read (by omega) hi⟩
  · by_cases hb : i < 5 ∨ cv cs i = 0
    · exact ⟨_, .share_no hi hb⟩
    · exact ⟨_, .share hi (by omega) fun e => hb (.inr e)⟩
  · by_cases hb : i < 5 ∨ cv cs i = 0
    · exact ⟨_, .drop_no hi hb⟩
    · exact ⟨_, .drop hi (by omega) fun e => hb (.inr e)⟩
  · exact ⟨_, .new hi⟩
  · exact ⟨_, .uses hi⟩
theorem nw_newB (k : Sk) (d : Sd) (i : Nat) : nw d.cs k.hs i = newB k d i := by
  unfold nw newB
  rw [Bool.and_assoc]
  congr 2
  exact decide_eq_decide.mpr ⟨fun h => V.int.inj h, fun h => congrArg V.int h⟩

end K23

set_option Elab.async false
set_option linter.all false
set_option maxRecDepth 100000
set_option maxHeartbeats 4000000
namespace K23
open PySem PySem.Spec PyProof.Rows L2 Evl LK LT LG LS LQ LX LO LN LP LH LV LZ LW StX LD
open K23D (DK Dk St)
open K23S (fr cv hv headV used In flds)
theorem ne_fin {K : PySem.W.Frag} {σ : L2.St} {H : Hp} {tw : TE} {tu tz : TS} {D : Ends} {v w : V} {dd : PyData} {n : Nat} (hw : Ev tw σ H w) (hx : Dp K H v dd) (hy : Dp K H w dd) (s : Sh n dd) (hn : n ≤ 64) (kz : ∀ H3, Ex H H3 → tz D σ H3) : tSeq (tIfS (tTest (tOp (rNeD K) (fun _ H Q => Q v H) tw)) tu tNext) tz D σ H :=
  q_when (b := false) (et_test (ev_op (fun H1 _ Q q => q H1 (Ex.refl _)) hw (rv_neD hx hy s hn))) (fun h => by cases h) (fun _ H3 e3 => kz H3 e3)
theorem q_dputL' {σ : L2.St} {H : Hp} {te td tk : TE} {D : Ends} {tz : TS} {d : Addr} {kvs : List (Key × V)} {z : Int} {xs : List V} (hv : EvL te σ H xs) (hd : Ev td σ H (.ref d)) (hk : Ev tk σ H (.int z)) (h : H d = some (.dK kvs)) (hl : kvs.length < 100000) (k : ∀ p H1, H p = none → Ex H H1 → H1 p = some (.lst xs) → tz D σ (upd H1 d (.dK (putK kvs (.inl z) (.ref p))))) : tSeq (sDPut td tk te) tz D σ H := s_dputL' (D := { D with nx := tz D }) hv hd hk h hl k
def tpD (i g : Int) : PyData := .tuple [.int i, .int g]
theorem sh_tp (i g : Int) : Sh 1 (tpD i g) := sh_tup (sh_ints [i, g])
theorem dp_tp {K : PySem.W.Frag} {H : Hp} {t : Addr} {i g : Int} (h : H t = some (.tup [.int i, .int g])) : Dp K H (.ref t) (tpD i g) := .tup (st_of h) (.cons (.int _) (.cons (.int _) .nil))
theorem head_free {k : Sk} {d : Sd} {i : Nat} (hl : d.cs.length = 96) (h : (fr d.cs k.hs false)[0]? = some i) : i < 96 ∧ cv d.cs i = 0 ∧ hv k.hs i = false := by
  have hm := List.mem_of_getElem? h
  have h1 := K23S.fr_lt hm
  have h2 := (List.mem_filter.mp hm).2
  unfold K23S.fr1 at h2
  obtain ⟨a, b⟩ := Bool.and_eq_true_iff.mp h2
  exact ⟨by omega, V.int.inj (of_decide_eq_true a), V.bl.inj (of_decide_eq_true b)⟩
/-- after a block was made and the law has told itself so -/
theorem LJ.made {c : Cc} {G H G1 H2 : Hp} {q na ha cd im : Addr} {k : Sk} {d : Sd} {C : Nat → List Int} {m i : Nat} {ws : List Int} {kvs : List (Key × V)} (j : LJ c G H q k d na ha cd im C m) (hi : i < 96) (h0 : cv d.cs i = 0) (hh : hv k.hs i = false) (h32 : ws.length = 32) (g1 : Ex G G1) (gn : G1 na = none) (gd : G1 cd = none)
    (t : ST c G1 H2 q k { d with cs := d.cs.set i 1, mem := setM d.mem i (some ws) }) (hn : H2 na = some (.lst ((d.cs.set i 1).map V.int))) (hc : H2 cd = some (.dK kvs)) (hC : CD G1 kvs (fset C i ws) (m + 1)) : LJ c G1 H2 q k { d with cs := d.cs.set i 1, mem := setM d.mem i (some ws) } na ha cd im (fset C i ws) (m + 1) := by
  have hl := j.len.1
  have cvs : ∀ x, cv (d.cs.set i 1) x = if x = i then 1 else cv d.cs x := fun x => by
    unfold K23S.cv
    rw [List.getD_eq_getElem?_getD, List.getD_eq_getElem?_getD, List.getElem?_set]
    by_cases e : i = x
    · rw [if_pos e, if_pos (by omega), if_pos e.symm]
      rfl
    · rw [if_neg e, if_neg (fun z => e z.symm)]
  refine ⟨t, j.n96, hn, gn, g1 _ _ j.hha, ⟨kvs, hc, hC⟩, gd, j.nc, j.dm, j.him.ex g1, fun x h5 h9 => ?_, fun x h9 => ?_, fun x h9 => ?_, ?_⟩
  · unfold fset cont setM
    by_cases e : x = i
    · simp only [if_pos e]
      exact ⟨trivial, h32⟩
    · simp only [if_neg e]
      exact j.ct x h5 h9
  · show setM d.mem i (some ws) x ≠ none ↔ (cv (d.cs.set i 1) x > 0 ∧ _)
    rw [cvs]
    unfold setM
    by_cases e : x = i
    · rw [if_pos e, if_pos e, e]
      exact ⟨fun _ => ⟨by decide, hh⟩, fun _ z => by cases z⟩
    · rw [if_neg e, if_neg e]
      exact j.mi x h9
  · show 0 ≤ cv (d.cs.set i 1) x
    rw [cvs]
    split
    · decide
    · exact j.ps x h9
  · have := memL_put (k := k) (d := d) (d' := { d with cs := d.cs.set i 1, mem := setM d.mem i (some ws) }) rfl
    have := j.ml
    omega
def WordsR (H : Hp) (k : Sk) (u : Addr) : Bool → Prop
  | true => ∃ ws : List Int, H u = some (.lst (ws.map V.int)) ∧ ws.length = 32 ∧ ∀ z ∈ ws, 0 ≤ z
  | false => (∃ xs, H u = some (.lst xs) ∧ KdL H xs ∧ ¬ okB xs ∧ u ≠ k.cl) ∨ ∃ xs, H u = some (.tup xs)
def spLmk (c : Cc) (Pw : Addr) : Sp := fun vs H Q _ => ∃ G q k d na ha cd im C m u vd g, vs = [.ref q, .ref na, .ref ha, .ref cd, .ref u, .bl vd, .int g] ∧ LJ c G H q k d na ha cd im C m ∧ m ≤ 60 ∧ g = k.g + 1 ∧ Tab H Pw ∧ 0 ≤ d.r ∧ G u = none ∧ WordsR H k u vd ∧
  ∀ G' H1 d' C', St G H G' H1 → LJ c G' H1 q k d' na ha cd im C' (m + 1) → Q (.bl true) H1
theorem LJ.more {c : Cc} {G H : Hp} {q na ha cd im : Addr} {k : Sk} {d : Sd} {C : Nat → List Int} {m : Nat} (j : LJ c G H q k d na ha cd im C m) : LJ c G H q k d na ha cd im C (m + 1) := ⟨j.st, j.n96, j.hna, j.gn, j.hha, let ⟨kvs, a, b⟩ := j.hcd; ⟨kvs, a, b.ex (Ex.refl _) (Nat.le_succ _)⟩, j.gd, j.nc, j.dm, j.him, j.ct, j.mi, j.ps, Nat.le_succ_of_le j.ml⟩
theorem upd_ST {c : Cc} {G H : Hp} {q x : Addr} {k : Sk} {d : Sd} {o : HO} (s : ST c G H q k d) (gx : G x = none) (nq : x ≠ q) (nc : x ≠ k.cl) (nm : x ≠ k.m) (nd : x ≠ k.dp ∧ x ≠ k.ka ∧ x ≠ k.sa ∧ x ≠ k.wa) : ST c G (L2.upd H x o) q k d := s.upd gx nq nc nm nd (Bx.of (Ex.refl _)).up

end K23

set_option Elab.async false
set_option linter.all false
set_option maxRecDepth 100000
set_option maxHeartbeats 4000000
namespace K23
open PySem PySem.Spec PyProof.Rows L2 Evl LK LT LG LS LQ LX LO LN LP LH LV LZ LW StX LD
open K23D (DK Dk St)
open K23S (fr cv hv headV used In flds)
theorem q_neC {K : PySem.W.Frag} {σ : L2.St} {H : Hp} {tA : TA} {tw : TE} {tu tz : TS} {D : Ends} {sp : Sp} {E : XK} {vs : List V} (ht : EvA tA σ H vs) (k : ∀ H1, Ex H H1 → sp vs H1 (fun v H2 => tSeq (tIfS (tTest (tOp (rNeD K) (fun _ H Q => Q v H) tw)) tu tNext) tz D σ H2) E) : tSeq (tIfS (tTest (tOp (rNeD K) (tCall sp [] E tA) tw)) tu tNext) tz D σ H :=
  ht H (Ex.refl _) _ fun H1 e1 => by
    rw [List.append_nil]
    exact k H1 e1
section
variable {P : Program} {w : World} {K : PySem.W.Frag} {mg : Str → Option Value} {base : Heap} {c : Cc} {CN CO CS CL Pw : Addr}
theorem ok_lmk {f fF fD : Addr} {fd fdF fdD : FuncData} (F : Fun K "_law_make" "_law_make" sLmk f fd) (FLfr : Fun K "_law_free" "_law_free" sLfr fF fdF) (GLfr : FnOk P w K mg base CX0 1 fF fdF ["numbers", "held"] (spLfr K)) (bLfr : Binds K fdF ["numbers", "held"] []) (gLfr : mg "_law_free" = some (.ref fF)) (FDo : Fun K "_law_do" "_law_do" sDo fD fdD) (GDo : FnOk P w K mg base CX0 8 fD fdD ["store", "act", "pointer", "words"] (spLdo c Pw)) (bDo : Binds K fdD ["store", "act", "pointer", "words"] []) (gDo : mg "_law_do" = some (.ref fD)) (T : Txt mg) (TT : TxT mg K c.T) : FnOk P w K mg base CX0 9 f fd ["store", "numbers", "held", "contents", "words", "valid", "generation"] (spLmk c Pw) := by
  refine F.ok scLmk (fun vs H Q E h => ?_) (fun cdv A outer s H vs Q E hr h => ?_)
  · obtain ⟨G, q, k, d, na, ha, cd, im, C, m, u, vd, g, rfl, _⟩ := h
    rfl
  · obtain ⟨G, q, k, d, na, ha, cd, im, C, m, u, vd, g, rfl, J, hm, rfl, hT, hr0, gu, hW, qq⟩ := h
    refine ⟨_, (pss_cons (ps_set (i := 7) scLmk.nd rfl (Or.inl rfl) (pe_call GLfr (hr.mono (by decide)) (by rfl) gLfr FLfr.kp bLfr .nil pass0 (pa_cons (pv 1) (pa_cons (pv 2) pa_nil))))
      (pss_cons (ps_set (i := 8) scLmk.nd rfl (Or.inl rfl) (pe_lst (pa_cons pe_str (pa_cons pe_str pa_nil))))
      (pss_cons (ps_if (pt_cmpR op_gt (pe_callB call_len_seq (by rfl) T.len (by decide +kernel) (pa_cons (pv 7) pa_nil)) (pe_fld (pv 0) rfl) (nomark _)) (pss_one (ps_set (i := 8) scLmk.nd rfl (Or.inl rfl) (pe_tup (pa_cons (pe_ix ix_list (pv 7) pe_int (fun _ _ => rfl)) (pa_cons (pv 6) pa_nil))))) pss_nil)
      (pss_cons (ps_if (pt_cmpR (op_neD hr.units) (pe_call GDo (hr.mono (by decide)) (by rfl) gDo FDo.kp bDo .nil pass0 (pa_cons (pv 0) (pa_cons pe_str (pa_cons pe_non (pa_cons pe_non pa_nil))))) (pv 8) (nomark _)) (pss_one (ps_ret pe_bl)) pss_nil)
      (pss_cons (ps_if (pt_not (pt_val (pv 5))) (pss_one (ps_set (i := 8) scLmk.nd rfl (Or.inl rfl) (pe_lst (pa_cons pe_str (pa_cons pe_str pa_nil))))) pss_nil)
      (pss_cons (ps_if (pt_cmpR (op_neD hr.units) (pe_call GDo (hr.mono (by decide)) (by rfl) gDo FDo.kp bDo .nil pass0 (pa_cons (pv 0) (pa_cons pe_str (pa_cons pe_non (pa_cons (pv 4) pa_nil))))) (pv 8) (nomark _)) (pss_one (ps_ret pe_bl)) pss_nil)
      (pss_cons (ps_if (pt_val (pe_callB call_isi (by rfl) T.isinstance (by decide +kernel) (pa_cons (pv 8) (pa_cons (pe_bltn (v := .ty "tuple") (u := .type "tuple") (by rfl) T.tuple (by decide +kernel) rfl) pa_nil)))) (pss_cons (ps_asg pe_int (pg_sub (pv 1) (pe_ix ix_tup (pv 8) pe_int (fun _ _ => rfl)) set_list))
      (pss_cons (ps_dput (hu_of hr) (pv 3) (pe_ix ix_tup (pv 8) pe_int (fun _ _ => rfl)) (pe_callTy call_list_of (by rfl) T.list (by decide +kernel) (pa_cons (pv 4) pa_nil)) (by rfl))
      (pss_one (ps_asg (pe_op op_add (pe_ix ix_list (pv 4) pe_int (fun _ _ => rfl)) pe_int) (pg_sub (pv 4) pe_int set_list))))) pss_nil)
      (pss_one (ps_ret pe_bl))))))))), ?_⟩
    have hl := J.len
    refine q_run (vs := [.ref na, .ref ha]) (ea_cons (ev_var rfl) (ea_cons (ev_var rfl) ea_nil)) fun H1 e1 => ⟨na, ha, d.cs, k.hs, rfl, (J.ex e1).hna, (J.ex e1).st.dk.g _ _ J.hha, hl.1, hl.2, fun fa H2 hfa e2 h2 => ?_⟩
    refine q_asgL (el_lst (ea_cons ev_c (ea_cons ev_c ea_nil)) (by decide)) fun du H3 hdu e3 h3 => ?_
    have e13 := (e1.trans e2).trans e3
    obtain ⟨dx, ho⟩ := (J.ex e13).st.o
    have hfr : Ev (tCB (rLenS K) (tCons (tVar 7) tNil)) (List.set (List.set (L2.start ["store", "numbers", "held", "contents", "words", "valid", "generation", "free", "due"] [.ref q, .ref na, .ref ha, .ref cd, .ref u, .bl vd, .int (k.g + 1)]) 7 (some (.ref fa))) 8 (some (.ref du))) H3 (.int (fre k d)) := ev_is (ev_lenL (ev_var rfl) (e3 _ _ h2)) (by rw [List.length_map]; rfl)
    by_cases hr : fre k d ≤ d.r
    · refine q_when (b := false) (et_is (et_test (ev_op hfr (ev_fld (ev_var rfl) ho TT.cl TT.nr t_r) rv_I0)) (decide_eq_false (by omega))) (fun h => by cases h) (fun _ H4 e4 => ?_)
      have e14 := e13.trans e4
      refine q_neC (vs := [.ref q, .str "next", .non, .non]) (ea_cons (ev_var rfl) (ea_cons ev_c (ea_cons ev_c (ea_cons ev_c ea_nil)))) fun H5 e5 => ⟨G, q, k, d, "next", .non, .non, _, rfl, (J.ex (e14.trans e5)).st, hT.mono (e14.trans e5), hr0, .next_no hr, fun t H6 ht e6 h6 => ne_fin (ev_var rfl) (dp_rf (b := true) h6) (dp_rf (b := true) (((e4.trans e5).trans e6) _ _ h3)) (sh_rf true) (by decide) fun H7 e7 => ?_⟩
      have e17 := ((e14.trans e5).trans e6).trans e7
      cases vd with
      | false =>
        obtain ⟨R0, hR0, hW2⟩ : ∃ u0 : Addr, u0 = u ∧ ((∃ xs, H u = some (.lst xs) ∧ KdL H xs ∧ ¬ okB xs ∧ u ≠ k.cl) ∨ ∃ xs, H u = some (.tup xs)) := ⟨u, rfl, hW⟩
        refine q_when (b := true) (et_is (et_not (et_B (ev_var rfl))) rfl) (fun _ I1 i1 => ?_) (fun h => by cases h)
        refine s_asgL (el_lst (ea_cons ev_c (ea_cons ev_c ea_nil)) (by decide)) fun du2 I2 hdu2 i2 hd2 => ?_
        show tSeq _ _ _ _ _
        have ii := (e17.trans i1).trans i2
        refine q_neC (vs := [.ref q, .str "make", .non, .ref u]) (ea_cons (ev_var rfl) (ea_cons ev_c (ea_cons ev_c (ea_cons (ev_var rfl) ea_nil)))) fun I3 i3 => ⟨G, q, k, d, "make", .non, .ref u, _, rfl, (J.ex (ii.trans i3)).st, hT.mono (ii.trans i3), hr0, hW2.elim (fun ⟨xs, a1, a2, a3, a4⟩ => .make_bad ((ii.trans i3) _ _ a1) (fun x hx => (let ⟨n, h⟩ := a2 x hx; ⟨n, h.mono (ii.trans i3)⟩)) a4 a3) (fun ⟨xs, a1⟩ => .make_tup ((ii.trans i3) _ _ a1)), fun t I4 ht i4 h4 => ne_fin (ev_var rfl) (dp_rf (b := false) h4) (dp_rf (b := false) ((i3.trans i4) _ _ hd2)) (sh_rf false) (by decide) fun I5 i5 => ?_⟩
        refine q_when (b := false) (et_B (ev_isi (b := false) (ev_var rfl) ev_c (fun B cc => .base (.lst (cc _ _ (((i3.trans i4).trans i5) _ _ hd2)))) (kit_ty rfl))) (fun h => by cases h) (fun _ I6 i6 => ?_)
        have iz := (((ii.trans i3).trans i4).trans i5).trans i6
        exact s_ret ev_c fun I7 i7 => qq G I7 d C (St.of (iz.trans i7)) (J.more.ex (iz.trans i7))
      | true =>
        obtain ⟨ws, hu, h32, hnn⟩ := hW
        have huc : u ≠ k.cl := fun z => by
          have h9 := J.st.c
          rw [← z, hu] at h9
          have := congrArg List.length (HO.lst.inj (Option.some.inj h9))
          rw [List.length_map, List.length_map, h32, hl.1] at this
          omega
        refine q_when (b := false) (et_is (et_not (et_B (ev_var rfl))) rfl) (fun h => by cases h) (fun _ I1 i1 => ?_)
        have ii := e17.trans i1
        refine q_neC (vs := [.ref q, .str "make", .non, .ref u]) (ea_cons (ev_var rfl) (ea_cons ev_c (ea_cons ev_c (ea_cons (ev_var rfl) ea_nil)))) fun I3 i3 => ⟨G, q, k, d, "make", .non, .ref u, _, rfl, (J.ex (ii.trans i3)).st, hT.mono (ii.trans i3), hr0, .make_no ((ii.trans i3) _ _ hu) h32 hnn huc hr, fun t I4 ht i4 h4 => ne_fin (ev_var rfl) (dp_rf (b := true) h4) (dp_rf (b := true) (((((((e4.trans e5).trans e6).trans e7).trans i1).trans i3).trans i4) _ _ h3)) (sh_rf true) (by decide) fun I5 i5 => ?_⟩
        have j5 : I5 du = some (.lst [.str "refused", .str (wS true)]) := ((((((((e4.trans e5).trans e6).trans e7).trans i1).trans i3).trans i4).trans i5) _ _ h3)
        refine q_when (b := false) (et_B (ev_isi (b := false) (ev_var rfl) ev_c (fun B cc => .base (.lst (cc _ _ j5))) (kit_ty rfl))) (fun h => by cases h) (fun _ I6 i6 => ?_)
        have iz := (((ii.trans i3).trans i4).trans i5).trans i6
        exact s_ret ev_c fun I7 i7 => qq G I7 d C (St.of (iz.trans i7)) (J.more.ex (iz.trans i7))
    · obtain ⟨i, hv, hi, hg⟩ := K23S.head_of (cs := d.cs) (hs := k.hs) (b := false) (by unfold fre at hr; omega)
      obtain ⟨hi96, hc0, hh0⟩ := head_free hl.1 hg
      refine q_when (b := true) (et_is (et_test (ev_op hfr (ev_fld (ev_var rfl) ho TT.cl TT.nr t_r) rv_I0)) (decide_eq_true (by omega))) (fun _ H4 e4 => ?_) (fun h => by cases h)
      refine s_asgU (eu_tup (ea_cons (ev_op (ev_var rfl) ev_c (rv_ixL (sq_of ((e3.trans e4) _ _ h2)) (v := .int (i : Int)) (atI_nat (j := 0) (by rw [List.getElem?_map, hg]; rfl)))) (ea_cons (ev_var rfl) ea_nil)) (Nat.le_of_ble_eq_true rfl)) fun dt H4b hdt e4b h4b => ?_
      show tSeq _ _ _ _ _
      have e14 := (e13.trans e4).trans e4b
      refine q_neC (vs := [.ref q, .str "next", .non, .non]) (ea_cons (ev_var rfl) (ea_cons ev_c (ea_cons ev_c (ea_cons ev_c ea_nil)))) fun H5 e5 => ⟨G, q, k, d, "next", .non, .non, _, rfl, (J.ex (e14.trans e5)).st, hT.mono (e14.trans e5), hr0, .next (by omega) hv, fun t H6 ht e6 h6 => ne_fin (ev_var rfl) (dp_tp h6) (dp_tp ((e5.trans e6) _ _ h4b)) (sh_tp _ _) (by decide) fun H7 e7 => ?_⟩
      have e17 := ((e14.trans e5).trans e6).trans e7
      have hdt7 := ((e5.trans e6).trans e7) _ _ h4b
      cases vd with
      | false =>
        obtain ⟨R0, hR0, hW2⟩ : ∃ u0 : Addr, u0 = u ∧ ((∃ xs, H u = some (.lst xs) ∧ KdL H xs ∧ ¬ okB xs ∧ u ≠ k.cl) ∨ ∃ xs, H u = some (.tup xs)) := ⟨u, rfl, hW⟩
        refine q_when (b := true) (et_is (et_not (et_B (ev_var rfl))) rfl) (fun _ I1 i1 => ?_) (fun h => by cases h)
        refine s_asgL (el_lst (ea_cons ev_c (ea_cons ev_c ea_nil)) (by decide)) fun du2 I2 hdu2 i2 hd2 => ?_
        show tSeq _ _ _ _ _
        have ii := (e17.trans i1).trans i2
        refine q_neC (vs := [.ref q, .str "make", .non, .ref u]) (ea_cons (ev_var rfl) (ea_cons ev_c (ea_cons ev_c (ea_cons (ev_var rfl) ea_nil)))) fun I3 i3 => ⟨G, q, k, d, "make", .non, .ref u, _, rfl, (J.ex (ii.trans i3)).st, hT.mono (ii.trans i3), hr0, hW2.elim (fun ⟨xs, a1, a2, a3, a4⟩ => .make_bad ((ii.trans i3) _ _ a1) (fun x hx => (let ⟨n, h⟩ := a2 x hx; ⟨n, h.mono (ii.trans i3)⟩)) a4 a3) (fun ⟨xs, a1⟩ => .make_tup ((ii.trans i3) _ _ a1)), fun t I4 ht i4 h4 => ne_fin (ev_var rfl) (dp_rf (b := false) h4) (dp_rf (b := false) ((i3.trans i4) _ _ hd2)) (sh_rf false) (by decide) fun I5 i5 => ?_⟩
        refine q_when (b := false) (et_B (ev_isi (b := false) (ev_var rfl) ev_c (fun B cc => .base (.lst (cc _ _ (((i3.trans i4).trans i5) _ _ hd2)))) (kit_ty rfl))) (fun h => by cases h) (fun _ I6 i6 => ?_)
        have iz := (((ii.trans i3).trans i4).trans i5).trans i6
        exact s_ret ev_c fun I7 i7 => qq G I7 d C (St.of (iz.trans i7)) (J.more.ex (iz.trans i7))
      | true =>
        obtain ⟨ws, hu, h32, hnn⟩ := hW
        have huc : u ≠ k.cl := fun z => by
          have h9 := J.st.c
          rw [← z, hu] at h9
          have := congrArg List.length (HO.lst.inj (Option.some.inj h9))
          rw [List.length_map, List.length_map, h32, hl.1] at this
          omega
        refine q_when (b := false) (et_is (et_not (et_B (ev_var rfl))) rfl) (fun h => by cases h) (fun _ I1 i1 => ?_)
        have ii := e17.trans i1
        refine q_neC (vs := [.ref q, .str "make", .non, .ref u]) (ea_cons (ev_var rfl) (ea_cons ev_c (ea_cons ev_c (ea_cons (ev_var rfl) ea_nil)))) fun I3 i3 => ?_
        have x3 := ii.trans i3
        have JB := J.ex x3
        have hu3 := x3 _ _ hu
        have une := ints_ne JB.st hu3 (by omega)
        have una : u ≠ na := fun z => by
          have h9 := J.hna
          rw [← z, hu] at h9
          have := congrArg List.length (HO.lst.inj (Option.some.inj h9))
          rw [List.length_map, List.length_map, h32, hl.1] at this
          omega
        have hdt3 := (i1.trans i3) _ _ hdt7
        refine ⟨G, q, k, d, "make", .non, .ref u, _, rfl, JB.st, hT.mono x3, hr0, .make hu3 h32 hnn huc (by omega) hv (by rw [J.n96]; exact hi96), fun G1 M t S1 FM T1 ht hg => ?_⟩
        obtain ⟨hnaM, kvs, hcdM, hCD⟩ := JB.keep FM
        obtain ⟨dx3, ho3⟩ := JB.st.o
        obtain ⟨kv3, hm3, _⟩ := JB.st.mm
        have hdtM : M dt = some (.tup [.int (i : Int), .int (k.g + 1)]) := FM _ _ hdt3 (ne_of hdt3 ho3 (by intro z; cases z)) (ne_of hdt3 JB.st.c (by intro z; cases z)) (ne_of hdt3 hm3 (by intro z; cases z))
        have huM : M u = some (.lst (ws.map V.int)) := FM _ _ hu3 une.1 huc une.2.1
        have alI : ∀ {a : Addr} {o : HO}, I3 a = some o → I3 a ≠ none := fun h z => by rw [h] at z; cases z
        have gna1 : G1 na = none := S1.n na (alI JB.hna) J.gn
        have gcd1 : G1 cd = none := S1.n cd (by
          obtain ⟨kk0, h0, _⟩ := JB.hcd
          exact alI h0) J.gd
        have gu1 : G1 u = none := S1.n u (alI hu3) gu
        have ndcd : cd ≠ na := ne_of hcdM hnaM (by intro z; cases z)
        have ndcu : cd ≠ u := ne_of hcdM huM (by intro z; cases z)
        refine ne_fin (ev_var rfl) (dp_tp (T1.dk.g _ _ hg)) (dp_tp hdtM) (sh_tp _ _) (by decide) fun M1 m1 => ?_
        refine q_when (b := true) (et_B (ev_isi (b := true) (ev_var rfl) ev_c (fun B cc => .base (.tup ((m1.trans cc) _ _ hdtM))) (kit_ty rfl))) (fun _ M2 m2 => ?_) (fun h => by cases h)
        have m12 := m1.trans m2
        have ix : ∀ {B : Hp} {σ : L2.St}, B dt = some (.tup [.int (i : Int), .int (k.g + 1)]) → σ[8]? = some (some (.ref dt)) → Ev (tOp (rIxT K) (tVar 8) (tC (.int 0))) σ B (.int (i : Int)) := fun hb h8 => ev_op (ev_var h8) ev_c (rv_ixT (st_of hb) (v := .int (i : Int)) (atI_nat (j := 0) rfl))
        refine q_setL (j := i) (m12 _ _ hnaM) ev_c (ev_var rfl) (ix (m12 _ _ hdtM) rfl) (by rw [List.length_map, hl.1]; exact hi96) fun N1 n1 => ?_
        rw [K23S.map_set]
        have mn := m12.trans n1
        have T2 := T1.ex mn
        have nne := ints_ne T2 (mn _ _ hnaM) (by rw [hl.1]; decide)
        have T3 := upd_ST T2 (o := .lst ((d.cs.set i 1).map V.int)) gna1 nne.1 J.nc nne.2.1 nne.2.2
        have S3 := S1.trans ((St.of (G := G1) mn).upd (a := na) (o := .lst ((d.cs.set i 1).map V.int)))
        have q1 : (upd N1 na (.lst ((d.cs.set i 1).map V.int))) na = some (.lst ((d.cs.set i 1).map V.int)) := upd_same
        have q2 : (upd N1 na (.lst ((d.cs.set i 1).map V.int))) cd = some (.dK kvs) := by rw [upd_ne ndcd]; exact mn _ _ hcdM
        have q3 : (upd N1 na (.lst ((d.cs.set i 1).map V.int))) u = some (.lst (ws.map V.int)) := by rw [upd_ne una]; exact mn _ _ huM
        have q4 : (upd N1 na (.lst ((d.cs.set i 1).map V.int))) dt = some (.tup [.int (i : Int), .int (k.g + 1)]) := by rw [upd_ne (ne_of hdtM hnaM (by intro z; cases z))]; exact mn _ _ hdtM
        generalize upd N1 na (.lst ((d.cs.set i 1).map V.int)) = N2 at T3 S3 q1 q2 q3 q4 ⊢
        have hkl := hCD.1
        refine q_dputL' (el_list (ev_var rfl) (sq_of q3)) (ev_var rfl) (ix q4 rfl) q2 (by omega) fun l N3 hl3 n3 h3l => ?_
        obtain ⟨G2, S4, T4, new4⟩ := T3.join n3
        have gl2 := new4 _ _ hl3 h3l
        have alN : ∀ {a : Addr} {o : HO}, N2 a = some o → N2 a ≠ none := fun h z => by rw [h] at z; cases z
        have gna2 : G2 na = none := S4.n na (alN q1) gna1
        have gcd2 : G2 cd = none := S4.n cd (alN q2) gcd1
        have gu2 : G2 u = none := S4.n u (alN q3) gu1
        have cne := dict_ne T4 (n3 _ _ q2)
        have T5 := upd_ST T4 (o := .dK (putK kvs (.inl (i : Int)) (.ref l))) gcd2 cne.1 cne.2.1 J.dm cne.2.2
        have S5 := (S3.trans S4).upd (a := cd) (o := .dK (putK kvs (.inl (i : Int)) (.ref l)))
        have r1 : (upd N3 cd (.dK (putK kvs (.inl (i : Int)) (.ref l)))) na = some (.lst ((d.cs.set i 1).map V.int)) := by rw [upd_ne ndcd.symm]; exact n3 _ _ q1
        have r2 : (upd N3 cd (.dK (putK kvs (.inl (i : Int)) (.ref l)))) cd = some (.dK (putK kvs (.inl (i : Int)) (.ref l))) := upd_same
        have r3 : (upd N3 cd (.dK (putK kvs (.inl (i : Int)) (.ref l)))) u = some (.lst (ws.map V.int)) := by rw [upd_ne ndcu.symm]; exact n3 _ _ q3
        generalize upd N3 cd (.dK (putK kvs (.inl (i : Int)) (.ref l))) = N4 at T5 S5 r1 r2 r3 ⊢
        refine s_setL (j := 0) (v := .int (ws.getD 0 0 + 1)) r3 (ev_op (ev_op (ev_var rfl) ev_c (rv_ixL (sq_of r3) (v := .int (ws.getD 0 0)) (atI_nat (j := 0) (by rw [List.getElem?_map, List.getD_eq_getElem?_getD, List.getElem?_eq_getElem (show 0 < ws.length by omega)]; rfl)))) ev_c rv_I0) (ev_var rfl) ev_c (by rw [List.length_map]; omega) fun N5 n5 => ?_
        have T6 := upd_ST (T5.ex n5) (o := .lst ((ws.map V.int).set 0 (.int (ws.getD 0 0 + 1)))) gu2 une.1 huc une.2.1 une.2.2
        have S6 := (S5.trans (St.of (G := G2) n5)).upd (a := u) (o := .lst ((ws.map V.int).set 0 (.int (ws.getD 0 0 + 1))))
        have s1 : (upd N5 u (.lst ((ws.map V.int).set 0 (.int (ws.getD 0 0 + 1))))) na = some (.lst ((d.cs.set i 1).map V.int)) := by rw [upd_ne una.symm]; exact n5 _ _ r1
        have s2 : (upd N5 u (.lst ((ws.map V.int).set 0 (.int (ws.getD 0 0 + 1))))) cd = some (.dK (putK kvs (.inl (i : Int)) (.ref l))) := by rw [upd_ne ndcu]; exact n5 _ _ r2
        generalize upd N5 u (.lst ((ws.map V.int).set 0 (.int (ws.getD 0 0 + 1)))) = N6 at T6 S6 s1 s2 ⊢
        dsimp only
        refine s_ret ev_c fun N7 n7 => qq G2 N7 _ _ (((St.of (G := G) x3).trans S6).trans (St.of n7)) (J.made hi96 hc0 hh0 h32 (S1.g.trans S4.g) gna2 gcd2 (T6.ex n7) (n7 _ _ s1) (n7 _ _ s2) ((hCD.ex (S1.g.trans S4.g) (Nat.le_refl _)).put gl2))
end

end K23

set_option Elab.async false
set_option linter.all false
set_option maxRecDepth 100000
set_option maxHeartbeats 4000000
namespace K23
open PySem PySem.Spec PyProof.Rows L2 Evl LK LT LG LS LQ LX LO LN LP LH LV LZ LW StX LD
open K23D (DK Dk St)
open K23S (fr cv hv headV used In flds)
theorem ne_finS {K : PySem.W.Frag} {σ : L2.St} {H : Hp} {tw : TE} {tu : TS} {D : Ends} {v w : V} {dd : PyData} {n : Nat} (hw : Ev tw σ H w) (hx : Dp K H v dd) (hy : Dp K H w dd) (s : Sh n dd) (hn : n ≤ 64) (kz : ∀ H3, Ex H H3 → D.nx σ H3) : tIfS (tTest (tOp (rNeD K) (fun _ H Q => Q v H) tw)) tu tNext D σ H :=
  s_when (b := false) (et_test (ev_op (fun H1 _ Q q => q H1 (Ex.refl _)) hw (rv_neD hx hy s hn))) (fun h => by cases h) (fun _ H3 e3 => kz H3 e3)
theorem s_neC {K : PySem.W.Frag} {σ : L2.St} {H : Hp} {tA : TA} {tw : TE} {tu : TS} {D : Ends} {sp : Sp} {E : XK} {vs : List V} (ht : EvA tA σ H vs) (k : ∀ H1, Ex H H1 → sp vs H1 (fun v H2 => tIfS (tTest (tOp (rNeD K) (fun _ H Q => Q v H) tw)) tu tNext D σ H2) E) : tIfS (tTest (tOp (rNeD K) (tCall sp [] E tA) tw)) tu tNext D σ H :=
  ht H (Ex.refl _) _ fun H1 e1 => by
    rw [List.append_nil]
    exact k H1 e1
def dLF (f : Nat → List Int) (n : Nat) : PyData := .list ((List.range n).map fun i => .list ((f i).map PyData.int))
theorem sh_dLF (f : Nat → List Int) (n : Nat) : Sh 2 (dLF f n) := sh_lst fun d hd => by
  obtain ⟨r, _, rfl⟩ := List.mem_map.mp hd
  exact sh_lst (sh_ints _)
theorem dpa_at {K : PySem.W.Frag} {H : Hp} : ∀ {vs : List V} {ds : List PyData}, vs.length = ds.length → (∀ (i : Nat) v d, vs[i]? = some v → ds[i]? = some d → Dp K H v d) → DpAll K H vs ds
  | [], [], _, _ => .nil
  | [], _ :: _, h, _ => by simp at h
  | _ :: _, [], h, _ => by simp at h
  | v :: vs, d :: ds, h, hk => .cons (hk 0 v d rfl rfl) (dpa_at (by simpa using h) fun i v' d' a b => hk (i + 1) v' d' a b)
theorem dp_rows {K : PySem.W.Frag} {H : Hp} {a : Addr} {xs : List V} {f : Nat → List Int} {n : Nat} (ha : H a = some (.lst xs)) (hl : xs.length = n) (h : ∀ (i : Nat) v, xs[i]? = some v → ∃ l, v = .ref l ∧ H l = some (.lst ((f i).map V.int))) : Dp K H (.ref a) (dLF f n) := .lst (sq_of ha) (dpa_at (by rw [List.length_map, List.length_range, hl]) fun i v d hv hd => by
  obtain ⟨l, rfl, h2⟩ := h i v hv
  have hi : i < n := by
    have := (List.getElem?_eq_some_iff.mp hv).1
    omega
  rw [List.getElem?_map, List.getElem?_range hi] at hd
  cases hd
  exact .lst (sq_of h2) (dp_ints _))
def spLend (c : Cc) (Pw : Addr) : Sp := fun vs H Q _ => ∃ G q k d na ha cd im C m, vs = [.ref q, .ref na, .ref ha, .ref cd, .ref im] ∧ LJ c G H q k d na ha cd im C m ∧ m < 60 ∧ Tab G Pw ∧ ∀ H1, Ex G H1 → Q (.bl true) H1
theorem memL_held {c : Cc} {G H : Hp} {q na ha cd im : Addr} {k : Sk} {d : Sd} {C : Nat → List Int} {m : Nat} (j : LJ c G H q k d na ha cd im C m) : memL k d = (List.range 96).filter fun i => decide (cv d.cs i > 0) && !hv k.hs i := by
  unfold memL
  rw [j.n96]
  refine List.filter_congr fun i hi => ?_
  have hi' := List.mem_range.mp hi
  have h := j.mi i hi'
  rw [Bool.eq_iff_iff, Option.isSome_iff_ne_none, h, Bool.and_eq_true_iff, decide_eq_true_eq]
  cases hv k.hs i <;> simp
theorem el_meth0' {σ : L2.St} {H : Hp} {ta : TE} {p C dx : Addr} {fs : List (Str × V)} {m : Str} {sp : Sp} {E : XK} {xs : List V} (ha : Ev ta σ H (.ref p)) (hi : H p = some (.ins C dx fs)) (hl : fs.lookup m = none) (hs : SpL sp [.ref p] H xs) : EvL (tMeth C m sp [] E ta tNil) σ H xs := el_meth ha hi hl ea_nil hs
theorem ev_lib {σ : L2.St} {H : Hp} {ta t1 td : TE} {p b C dx : Addr} {fs : List (Str × V)} {m : Str} {sp : Sp} {E : XK} {xs : List V} {ns : List Int} (ha : Ev ta σ H (.ref p)) (hi : H p = some (.ins C dx fs)) (hl : fs.lookup m = none) (ht : EvU t1 σ H xs) (k : ∀ t H1, H1 t = some (.tup xs) → Ex H H1 → ∀ Q : VK, (∀ l H2, Ex H1 H2 → H2 l = some (.lst (ns.map V.int)) → Q (.ref l) H2) → sp [.ref p, .ref t] H1 Q E) (hd : ∀ H1, Ex H H1 → Ev td σ H1 (.ref b)) (hb : H b = some (.lst (ns.map V.int))) (h32 : ns.length = 32) : Ev (tCall spLib [] E0 (tCons (tMeth C m sp [] E ta (tCons t1 tNil)) (tCons td tNil))) σ H (.bl true) := fun H1 e Q q =>
  ha H1 e _ fun H2 e2 => ⟨p, dx, fs, rfl, (e.trans e2) _ _ hi, hl, ht H2 (e.trans e2) _ fun t H3 _ e3 h3 => k t H3 h3 ((e.trans e2).trans e3) _ fun l H4 e4 h4 => hd H4 (((e.trans e2).trans e3).trans e4) H4 (Ex.refl _) _ fun H5 e5 => ⟨l, b, ns, rfl, e5 _ _ h4, ((((e.trans e2).trans e3).trans e4).trans e5) _ _ hb, h32, fun H6 e6 => q H6 ((((e2.trans e3).trans e4).trans e5).trans e6)⟩⟩

section
variable {P : Program} {w : World} {K : PySem.W.Frag} {mg : Str → Option Value} {base : Heap} {c : Cc} {CN CO CS CL Pw : Addr}
theorem ok_lend {f fF fD fB f1 f2 f3 f4 f5 f6 : Addr} {fd fdF fdD fdB fd1 fd2 fd3 fd4 fd5 fd6 : FuncData} (F : Fun K "_law_end" "_law_end" sEnd f fd) (FLfr : Fun K "_law_free" "_law_free" sLfr fF fdF) (GLfr : FnOk P w K mg base CX0 1 fF fdF ["numbers", "held"] (spLfr K)) (bLfr : Binds K fdF ["numbers", "held"] []) (gLfr : mg "_law_free" = some (.ref fF)) (FDo : Fun K "_law_do" "_law_do" sDo fD fdD) (GDo : FnOk P w K mg base CX0 8 fD fdD ["store", "act", "pointer", "words"] (spLdo c Pw)) (bDo : Binds K fdD ["store", "act", "pointer", "words"] []) (gDo : mg "_law_do" = some (.ref fD))
    (FLib : Fun K "_law_is_block" "_law_is_block" sLib fB fdB) (GLib : FnOk P w K mg base CX0 1 fB fdB ["told", "due"] spLib) (bLib : Binds K fdB ["told", "due"] []) (gLib : mg "_law_is_block" = some (.ref fB))
    (Gfree : FnOk P w K mg base CX0 3 f1 fd1 ["self"] (spFree c)) (bfree : Binds K fd1 ["self"] []) (mfree : Meth K c.T "free" f1) (Gimage : FnOk P w K mg base CX0 1 f2 fd2 ["self"] (K23D.spImgs c.D fun d => K23D.due d.kept d.ws)) (bimage : Binds K fd2 ["self"] []) (mimage : Meth K c.D "image" f2) (Gwaiting : FnOk P w K mg base CX0 1 f3 fd3 ["self"] (K23D.spWait c.D)) (bwaiting : Binds K fd3 ["self"] []) (mwaiting : Meth K c.D "waiting" f3)
    (Gnew_blocks : FnOk P w K mg base CX0 1 f4 fd4 ["self"] (spNb c)) (bnew_blocks : Binds K fd4 ["self"] []) (mnew_blocks : Meth K c.T "new_blocks" f4) (Guse_reserve : FnOk P w K mg base CX0 1 f5 fd5 ["self", "reserve"] (spUr c)) (buse_reserve : Binds K fd5 ["self", "reserve"] []) (muse_reserve : Meth K c.T "use_reserve" f5) (Gread : FnOk P w K mg base (L2.CX P w) 5 f6 fd6 ["self", "pointer"] (spRead c CN)) (bread : Binds K fd6 ["self", "pointer"] []) (mread : Meth K c.T "read" f6)
    (T : Txt mg) (TT : TxT mg K c.T) (TD : K23D.Txt mg K c.D) : FnOk P w K mg base CX0 9 f fd ["store", "numbers", "held", "contents", "image"] (spLend c Pw) := by
  refine F.ok scEnd (fun vs H Q E h => ?_) (fun cdv A outer s H vs Q E hr h => ?_)
  · obtain ⟨G, q, k, d, na, ha, cd, im, C, m, rfl, _⟩ := h
    rfl
  · obtain ⟨G, q, k, d, na, ha, cd, im, C, m, rfl, J, hm, hTG, qq⟩ := h
    refine ⟨_, (pss_cons (ps_set (i := 5) scEnd.nd rfl (Or.inl rfl) (pe_callB call_len_seq (by rfl) T.len (by decide +kernel) (pa_cons (pe_call GLfr (hr.mono (by decide)) (by rfl) gLfr FLfr.kp bLfr .nil pass0 (pa_cons (pv 1) (pa_cons (pv 2) pa_nil))) pa_nil)))
      (pss_cons (ps_if (PW.pt (pw_or (pt_cmpR op_ne (pe_meth0 (pv 0) TT.cl mfree Gfree (hr.mono (by decide)) bfree .nil pass0) (pv 5) (nomark _)) (pw_or (pt_cmpR (op_neD hr.units) (pe_meth0 (pe_fld (pv 0) rfl) TD.cl mimage Gimage (hr.mono (by decide)) bimage .nil pass0) (pv 4) (nomark _)) (pw_or1 (pt_cmpR (op_neD hr.units) (pe_meth0 (pe_fld (pv 0) rfl) TD.cl mwaiting Gwaiting (hr.mono (by decide)) bwaiting .nil pass0) (pe_lst pa_nil) (nomark _)))))) (pss_one (ps_ret pe_bl)) pss_nil)
      (pss_cons (ps_if (pt_cmpR (op_neD hr.units) (pe_meth0 (pv 0) TT.cl mnew_blocks Gnew_blocks (hr.mono (by decide)) bnew_blocks .nil pass0) (pe_lc (own := [("k", 9)]) (g := gName 9) rfl scEnd.nd (pi_range1 (by rfl) T.range (pa_cons pe_int pa_nil)) (blkOk_by (own := [("k", 9)]) (N := ["store", "numbers", "held", "contents", "image", "free", "many", "due", "number", "k"]) (sc := defScope sEnd) (by decide +kernel)) (fun _ _ _ _ _ => pg_name (i := 9) scEnd.nd rfl (Or.inl rfl)) (fun _ _ _ _ _ => (pts_one (PW.pt (pw_and (pt_cmpR op_gt (pe_ix (r := rIxL K) ix_list (pv 1) (pv 9) (fun _ _ => rfl)) pe_int (nomark _)) (pw_and1 (pt_not (pt_val (pe_ix (r := rIxL K) ix_list (pv 2) (pv 9) (fun _ _ => rfl))))))))) (fun _ _ _ _ _ => (pv 9))) (nomark _)) (pss_one (ps_ret pe_bl)) pss_nil)
      (pss_cons (ps_expr (pe_meth (pv 0) TT.cl muse_reserve Guse_reserve (hr.mono (by decide)) buse_reserve .nil pass0 (pa_cons (pe_op op_fdiv (pv 5) pe_int) pa_nil)))
      (pss_cons (ps_for PassesOwn.never rfl (pi_list (pe_lst (pa_cons pe_int (pa_cons (pe_op op_sub (pv 5) (pe_fld (pv 0) rfl)) (pa_cons (pe_op op_add (pe_op op_sub (pv 5) (pe_fld (pv 0) rfl)) pe_int) pa_nil))))) (pg_name (i := 6) scEnd.nd rfl (Or.inl rfl)) (pss_cons (ps_set (i := 7) scEnd.nd rfl (Or.inl rfl) pe_non)
      (pss_cons (ps_if (pt_cmpR op_lt (pv 5) (pe_op op_add (pv 6) (pe_fld (pv 0) rfl)) (nomark _)) (pss_one (ps_set (i := 7) scEnd.nd rfl (Or.inl rfl) (pe_lst (pa_cons pe_str (pa_cons pe_str pa_nil))))) pss_nil)
      (pss_one (ps_if (pt_cmpR (op_neD hr.units) (pe_call GDo (hr.mono (by decide)) (by rfl) gDo FDo.kp bDo .nil pass0 (pa_cons (pv 0) (pa_cons pe_str (pa_cons (pv 6) (pa_cons pe_non pa_nil))))) (pv 7) (nomark _)) (pss_one (ps_ret pe_bl)) pss_nil)))))
      (pss_cons (ps_for PassesOwn.never rfl (pi_range2 (by rfl) T.range (pa_cons pe_int (pa_cons pe_int pa_nil))) (pg_name (i := 8) scEnd.nd rfl (Or.inl rfl)) (pss_one (ps_if (pt_not (pt_val (pe_call GLib (hr.mono (by decide)) (by rfl) gLib FLib.kp bLib .nil pass0 (pa_cons (pe_meth (pv 0) TT.cl mread Gread (hr.mono (by decide)) bread .nil passL (pa_cons (pe_tup (pa_cons (pv 8) (pa_cons pe_int pa_nil))) pa_nil)) (pa_cons (pe_dget (hu_of hr) (pv 3) (pv 8) (fun _ _ => rfl)) pa_nil))))) (pss_one (ps_ret pe_bl)) pss_nil)))
      (pss_one (ps_ret pe_bl)))))))), ?_⟩
    have hl := J.len
    obtain ⟨dx, ho⟩ := J.st.o
    obtain ⟨dd, hd⟩ := J.st.dk.o
    refine q_asg (v := .int (fre k d)) (ev_is (ev_lenN (el_call (vs := [.ref na, .ref ha]) (ea_cons (ev_var rfl) (ea_cons (ev_var rfl) ea_nil)) (fun H1 e1 Q q E => ⟨na, ha, d.cs, k.hs, rfl, (J.ex e1).hna, (J.ex e1).st.dk.g _ _ J.hha, hl.1, hl.2, q⟩))) (by rw [List.length_map]; rfl)) fun H1 e1 => ?_
    have hno : ∀ {x : Str}, x = "image" ∨ x = "waiting" → (K23D.dfl k.n k.ka k.sa k.wa true none).lookup x = Option.none := fun h => by
      rcases h with rfl | rfl <;> exact K23D.d_no ⟨by decide +kernel, by decide +kernel, by decide +kernel, by decide +kernel, by decide +kernel, by decide +kernel⟩
    have himg : Ev (tOp (rNeD K) (tMeth c.D "image" (K23D.spImgs c.D fun d => K23D.due d.kept d.ws) [] E0 (tFld K (tVar 0) "disk") tNil) (tVar 4)) (List.set (L2.start ["store", "numbers", "held", "contents", "image", "free", "many", "due", "number", "k"] [.ref q, .ref na, .ref ha, .ref cd, .ref im]) 5 (some (.int (fre k d)))) H1 (.bl false) := fun B b Q' q' => by
      refine m_run (ev_fld (ev_var rfl) ((e1.trans b) _ _ ho) TT.cl TT.nd t_d) ((e1.trans b) _ _ hd) (hno (.inl rfl)) ea_nil fun B1 b1 => ⟨G, k.dp, k.ka, k.sa, k.wa, k.n, _, rfl, J.st.dk.ex ((e1.trans b).trans b1), fun L ys B2 hL b2 h2 hn hrr => ?_⟩
      obtain ⟨ks, i1, i2, i3⟩ := J.him
      have x2 := ((e1.trans b).trans b1).trans b2
      have gx := J.st.dk.g.trans x2
      exact (ev_op (ta := fun _ H Q => Q (.ref L) H) (σ := List.set (L2.start ["store", "numbers", "held", "contents", "image", "free", "many", "due", "number", "k"] [.ref q, .ref na, .ref ha, .ref cd, .ref im]) 5 (some (.int (fre k d)))) (fun H1 _ Q q => q H1 (Ex.refl _)) (ev_var (i := 4) rfl) (rv_neD (d := dLF k.f (4 * 96)) (dp_rows h2 (by rw [hn, J.n96]) fun i v hv => (let ⟨l, a1, _, a3, _⟩ := hrr i v hv; ⟨l, a1, a3⟩)) (dp_rows (gx _ _ i1) (by rw [List.length_map, i2]) fun i v hv => by
        rw [List.getElem?_map] at hv
        obtain ⟨x, hx, rfl⟩ := Option.map_eq_some_iff.mp hv
        exact ⟨x, rfl, gx _ _ (i3 i x hx)⟩) (sh_dLF _ _) (by decide))) B2 (Ex.refl _) Q' fun B3 b3 => q' B3 ((b1.trans b2).trans b3)
    have hwai : Ev (tOp (rNeD K) (tMeth c.D "waiting" (K23D.spWait c.D) [] E0 (tFld K (tVar 0) "disk") tNil) (tLst tNil)) (List.set (L2.start ["store", "numbers", "held", "contents", "image", "free", "many", "due", "number", "k"] [.ref q, .ref na, .ref ha, .ref cd, .ref im]) 5 (some (.int (fre k d)))) H1 (.bl false) := fun B b Q' q' => by
      refine m_run (ev_fld (ev_var rfl) ((e1.trans b) _ _ ho) TT.cl TT.nd t_d) ((e1.trans b) _ _ hd) (hno (.inr rfl)) ea_nil fun B1 b1 => ⟨G, k.dp, k.ka, k.sa, k.wa, k.n, _, rfl, J.st.dk.ex ((e1.trans b).trans b1), fun L ys B2 hL b2 h2 hn _ => ?_⟩
      have hy : ys = [] := List.length_eq_zero_iff.mp hn
      rw [hy] at h2
      refine el_lst (σ := (List.set (L2.start ["store", "numbers", "held", "contents", "image", "free", "many", "due", "number", "k"] [.ref q, .ref na, .ref ha, .ref cd, .ref im]) 5 (some (.int (fre k d))))) (H := B2) ea_nil (by decide) B2 (Ex.refl _) _ fun p B3 hp b3 h3 => ?_
      exact rv_neD (d := .list []) (.lst (sq_of (b3 _ _ h2)) .nil) (.lst (sq_of h3) .nil) (sh_lst (n := 0) fun d hd => by cases hd) (by decide) B3 (Ex.refl _) Q' fun B4 b4 => q' B4 (((b1.trans b2).trans b3).trans b4)
    refine q_when (b := false) (et_is (et_or (et_test (ev_op (ev_meth0 (ev_var rfl) (e1 _ _ ho) (tno (.inr (.inl rfl))) (sv_free (J.st.ex e1))) (ev_var rfl) (rv_ne rfl))) (fun _ => et_or (et_test himg) (fun _ => et_test hwai))) (by simp)) (fun h => by cases h) (fun _ H2 e2 => ?_)
    have e12 := e1.trans e2
    have h64 : (memL k d).length < 64 := by have := J.ml; omega
    refine q_when (b := false) (et_test (ev_opLL (xs := ((memL k d).map fun i : Nat => (i : Int)).map V.int) (ys := ((memL k d).map fun i : Nat => (i : Int)).map V.int) (el_meth0' (ev_var rfl) (e12 _ _ ho) (tno (.inr (.inr (.inr (.inr (.inr (.inr (.inr (.inr (.inr (.inr (.inr (.inl rfl))))))))))))) (fun B b Q' q' E' => ⟨G, q, k, d, rfl, J.st.ex (e12.trans b), h64, by rw [List.map_map] at q'; exact q'⟩)) (el_is (el_lcR1 (n := 96) (fun i => decide (cv d.cs i > 0) && !hv k.hs i) (fun i => V.int ((i : Nat) : Int)) (ea_cons ev_c ea_nil) ⟨by decide, by decide⟩ (fun _ => rfl) (fun i B b hi => ?_) (fun i B b hi _ => ev_var rfl)) (by
      rw [memL_held J, List.map_map]
      rfl)) (fun p1 p2 B a1 a2 _ => rv_neD (d := .list (((memL k d).map fun i : Nat => (i : Int)).map PyData.int)) (.lst (sq_of a1) (dp_ints _)) (.lst (sq_of a2) (dp_ints _)) (sh_lst (sh_ints _)) (by decide)))) (fun h => by cases h) (fun _ H3 e3 => ?_)
    · have hi' : i < d.cs.length := by rw [hl.1]; omega
      exact et_is (et_and (et_test (ev_op (ev_op (ev_var rfl) (ev_var rfl) (rv_ixL (sq_of ((e12.trans b) _ _ J.hna)) (atI_nat (K23S.cv_at hi')))) ev_c rv_I0)) (fun _ => et_not (et_B (ev_op (ev_var rfl) (ev_var rfl) (rv_ixL (sq_of ((J.st.dk.g.trans (e12.trans b)) _ _ J.hha)) (atI_nat (K23S.hv_at (by rw [hl.2]; omega)))))))) rfl
    have e13 := e12.trans e3
    have f0 : 0 ≤ fre k d := by unfold fre; omega
    have f1 := fre_le J.st
    refine q_m (ev_var rfl) (e13 _ _ ho) (tno (.inr (.inr (.inr (.inr (.inr (.inr (.inr (.inr (.inr (.inr (.inr (.inr (rfl)))))))))))))) (ea_cons (x := .int (fre k d / 2)) (ev_op (ev_var rfl) ev_c (rv_I ⟨by decide, by decide⟩)) ea_nil) fun H4 e4 => ⟨G, q, k, d, fre k d / 2, rfl, J.st.ex (e13.trans e4), fun H5 F5 T5 => ?_⟩
    have J5 := (J.ex (e13.trans e4)).setR F5 T5
    have hT5 : Tab H5 Pw := hTG.mono T5.dk.g
    have hfre : fre k { d with r := fre k d / 2 } = fre k d := rfl
    obtain ⟨dx5, ho5⟩ := T5.o
    have hgr : ∀ {B : Hp} {σ : L2.St}, Ex H5 B → σ[0]? = some (some (.ref q)) → Ev (tFld K (tVar 0) "reserve") σ B (.int (fre k d / 2)) := fun e h => ev_fld (ev_var h) (e _ _ ho5) TT.cl TT.nr t_r
    refine q_forNLn (xs := [.int 0, .int (fre k d - fre k d / 2), .int (fre k d - fre k d / 2 + 1)]) (el_lst (ea_cons ev_c (ea_cons (ev_op (ev_var rfl) (hgr (Ex.refl _) rfl) rv_I0) (ea_cons (ev_op (ev_op (ev_var rfl) (hgr (Ex.refl _) rfl) rv_I0) ev_c rv_I0) ea_nil))) (Nat.le_of_ble_eq_true rfl)) (fun p i σ' B => ∃ y6 y7, σ' = [some (.ref q), some (.ref na), some (.ref ha), some (.ref cd), some (.ref im), some (.int (fre k d)), y6, y7, none, none] ∧ Ex H5 B ∧ B p = some (.lst [.int 0, .int (fre k d - fre k d / 2), .int (fre k d - fre k d / 2 + 1)])) (fun p B hp eB hB => ⟨none, none, rfl, eB, hB⟩) (fun p i σ' B _ pp => by
      obtain ⟨_, _, _, _, hB⟩ := pp
      exact sq_of hB) (fun p i x σ' B hx pp => ?_) (fun p σ' B pp => ?_)
    · obtain ⟨y6, y7, rfl, eB, hB⟩ := pp
      obtain ⟨many, rfl⟩ : ∃ many : Int, x = .int many := by
        have := List.mem_of_getElem? hx
        simp only [List.mem_cons, List.not_mem_nil, or_false] at this
        rcases this with rfl | rfl | rfl <;> exact ⟨_, rfl⟩
      refine q_asg ev_c fun B1 b1 => ?_
      have x1 := eB.trans b1
      refine q_when (et_test (ev_op (ev_var rfl) (ev_op (ev_var rfl) (hgr x1 rfl) rv_I0) rv_I0)) (fun hb B2 b2 => ?_) (fun hb B2 b2 => ?_)
      · have hlt := of_decide_eq_true hb
        refine s_asgL (el_lst (ea_cons ev_c (ea_cons ev_c ea_nil)) (by decide)) fun du B3 hdu b3 hd3 => ?_
        have x3 := (x1.trans b2).trans b3
        dsimp only
        refine s_neC (vs := [.ref q, .str "require", .int many, .non]) (ea_cons (ev_var rfl) (ea_cons ev_c (ea_cons (ev_var rfl) (ea_cons ev_c ea_nil)))) fun B4 b4 => ⟨G, q, k, { d with r := fre k d / 2 }, "require", .int many, .non, _, rfl, T5.ex (x3.trans b4), hT5.mono (x3.trans b4), by show 0 ≤ fre k d / 2; omega, .req_no hlt, fun t B5 ht b5 h5 => ne_finS (ev_var rfl) (dp_rf (b := true) h5) (dp_rf (b := true) ((b4.trans b5) _ _ hd3)) (sh_rf true) (by decide) fun B6 b6 => ⟨_, _, rfl, ((x3.trans b4).trans b5).trans b6, ((((((b1.trans b2).trans b3).trans b4).trans b5).trans b6) _ _ hB)⟩⟩
      · have hge := of_decide_eq_false hb
        have x2 := x1.trans b2
        refine s_neC (vs := [.ref q, .str "require", .int many, .non]) (ea_cons (ev_var rfl) (ea_cons ev_c (ea_cons (ev_var rfl) (ea_cons ev_c ea_nil)))) fun B4 b4 => ⟨G, q, k, { d with r := fre k d / 2 }, "require", .int many, .non, _, rfl, T5.ex (x2.trans b4), hT5.mono (x2.trans b4), by show 0 ≤ fre k d / 2; omega, .req (by show many + fre k d / 2 ≤ fre k d; omega), fun B5 b5 => ne_finS (dd := .none) (n := 0) (ev_var rfl) .non .non (sh_none 0) (by decide) fun B6 b6 => ⟨_, _, rfl, ((x2.trans b4).trans b5).trans b6, (((((b1.trans b2).trans b4).trans b5).trans b6) _ _ hB)⟩⟩
    · obtain ⟨y6, y7, rfl, eB, _⟩ := pp
      refine q_forR2 (lo := 5) (n := 96) (ea_cons ev_c (ea_cons ev_c ea_nil)) ⟨by decide, by decide, by decide, by decide⟩ (fun i σ' B2 => ∃ y8, σ' = [some (.ref q), some (.ref na), some (.ref ha), some (.ref cd), some (.ref im), some (.int (fre k d)), y6, y7, y8, none] ∧ Ex H5 B2) (fun B2 b2 => ⟨none, rfl, eB.trans b2⟩) ?_ ?_
      · rintro i σ' B2 hi ⟨y8, rfl, x2⟩
        obtain ⟨kvs, hcd, hC⟩ := J5.hcd
        obtain ⟨l, hv1, hv2⟩ := hC.2 (5 + i) (by omega) (by omega)
        obtain ⟨hct, h32⟩ := J5.ct (5 + i) (by omega) (by omega)
        have hlB := T5.dk.g _ _ hv2
        have hcast : (5 : Int) + (i : Int) = ((5 + i : Nat) : Int) := by push_cast; rfl
        refine s_when (b := false) (et_is (et_not (et_B (ev_lib (ns := C (5 + i)) (b := l) (ev_var rfl) (x2 _ _ ho5) (tno (.inr (.inr (.inr (.inr (.inl rfl)))))) (eu_tup (ea_cons (x := .int (5 + (i : Int))) (ev_var rfl) (ea_cons ev_c ea_nil)) (Nat.le_of_ble_eq_true rfl)) (fun t B3 h3 b3 Q' q' => ⟨G, q, k, { d with r := fre k d / 2 }, t, 5 + (i : Int), [.int 3], rfl, T5.ex (x2.trans b3), h3, fun jj hj _ _ l2 B4 _ b4 h4 => q' l2 B4 b4 (by
          have : jj = 5 + i := by omega
          subst this
          rw [hct]
          exact h4), fun hn => absurd ⟨by omega, by have := J5.n96; omega⟩ hn⟩) (fun B3 b3 => ev_dget (ev_var rfl) (ev_var rfl) ((x2.trans b3) _ _ hcd) (by rw [hcast]; exact hv1)) (x2 _ _ hlB) h32))) rfl) (fun h => by cases h) fun _ B3 b3 => ⟨_, rfl, x2.trans b3⟩
      · rintro σ' B2 ⟨y8, rfl, x2⟩
        exact s_ret ev_c fun B3 b3 => qq B3 (T5.dk.g.trans (x2.trans b3))
end

end K23

set_option Elab.async false
set_option linter.all false
set_option maxRecDepth 100000
set_option maxHeartbeats 4000000
namespace K23
open PySem PySem.Spec PyProof.Rows L2 Evl LK LT LG LS LQ LX LO LN LP LH LV LZ LW StX LD
open K23D (DK Dk St)
open K23S (fr cv hv headV used In flds)
/-! ### the tape: some numbers from 0 to 999 -/
def Good (ts : List Int) : Prop := ∀ t ∈ ts, 0 ≤ t ∧ t < 1000
theorem Good.snoc {ts : List Int} {t : Int} (h : Good ts) (h0 : 0 ≤ t) (h1 : t < 1000) : Good (ts ++ [t]) := fun z hz => by
  rcases List.mem_append.mp hz with q | q
  · exact h z q
  · rw [List.mem_singleton.mp q]
    exact ⟨h0, h1⟩
theorem Good.cell {ts : List Int} (h : Good ts) (k : Nat) : 0 ≤ cellv ts k ∧ cellv ts k < 1000 := by
  unfold cellv
  rw [List.getD_eq_getElem?_getD]
  cases e : ts[k]? with
  | none => exact ⟨by decide, by decide⟩
  | some t => exact h t (List.mem_of_getElem? e)
def spTape (K : PySem.W.Frag) : Sp := fun vs H Q _ => ∃ (a : Addr) (ns : List Int), vs = [.ref a] ∧ SqL K H a (ns.map V.int) ∧ ns.length ≤ 63 ∧ ∀ (p : Addr) (H' : Hp) (ts : List Int), H p = none → Ex H H' → H' p = some (.lst (ts.map V.int)) → Good ts → ts.length ≤ 3780 → Q (.ref p) H'
section
variable {P : Program} {w : World} {K : PySem.W.Frag} {mg : Str → Option Value} {base : Heap} 
theorem ok_tape {f : Addr} {fd : FuncData} (F : Fun K "_law_tape" "_law_tape" sTape f fd) (T : Txt mg ) : FnOk P w K mg base CX0 1 f fd ["script"] (spTape K) := by
  refine F.ok scTape (fun vs H Q E h => ?_) (fun cdv A outer s H vs Q E hr h => ?_)
  · obtain ⟨a, ns, rfl, _⟩ := h
    rfl
  · obtain ⟨a, ns, rfl, hS, hlen, q⟩ := h
    refine ⟨_, (pss_cons (ps_set (i := 1) scTape.nd rfl (Or.inl rfl) (pe_lst pa_nil))
      (pss_cons (ps_for PassesOwn.never rfl (pi_range1 (by rfl) T.range (pa_cons (pe_callB call_len_seq (by rfl) T.len (by decide +kernel) (pa_cons (pv 0) pa_nil)) pa_nil)) (pg_name (i := 2) scTape.nd rfl (Or.inl rfl)) (pss_cons (ps_set (i := 3) scTape.nd rfl (Or.inl rfl) (pe_callB call_abs (by rfl) T.abs (by decide +kernel) (pa_cons (pe_callTy call_int1 (by rfl) T.int (by decide +kernel) (pa_cons (pe_ix ix_list (pv 0) (pv 2) (fun _ _ => rfl)) pa_nil)) pa_nil)))
      (pss_one (ps_if (pt_cmpR op_ge (pv 3) (pe_op op_pow pe_int pe_int) (nomark _)) (pss_one (ps_for PassesOwn.never rfl (pi_range1 (by rfl) T.range (pa_cons pe_int pa_nil)) (pg_name (i := 4) scTape.nd rfl (Or.inl rfl)) (pss_one (ps_if (pt_cmpR op_gt (pv 3) pe_int (nomark _)) (pss_cons (ps_expr (pe_bm PySem.F.plainAttrs_list PySem.F.slot_list_append PySem.F.type_list_append mt_append (pv 1) (pa_cons (pe_op op_mod (pv 3) pe_int) pa_nil)))
      (pss_one (ps_set (i := 3) scTape.nd rfl (Or.inl rfl) (pe_op op_fdiv (pv 3) pe_int)))) pss_nil)))) (pss_one (ps_for PassesOwn.never rfl (pi_range1 (by rfl) T.range (pa_cons pe_int pa_nil)) (pg_name (i := 4) scTape.nd rfl (Or.inl rfl)) (pss_cons (ps_set (i := 3) scTape.nd rfl (Or.inl rfl) (pe_op op_mod (pe_op op_add (pe_op op_add (pe_op op_mul (pv 3) pe_int) (pe_op op_mul pe_int (pe_op op_add (pv 2) pe_int))) (pe_op op_mul pe_int (pv 4))) pe_int))
      (pss_cons (ps_set (i := 3) scTape.nd rfl (Or.inl rfl) (pe_op op_mod (pe_op op_mul (pv 3) pe_int) pe_int))
      (pss_one (ps_expr (pe_bm PySem.F.plainAttrs_list PySem.F.slot_list_append PySem.F.type_list_append mt_append (pv 1) (pa_cons (pe_op op_mod (pe_op op_fdiv (pv 3) pe_int) pe_int) pa_nil))))))))))))
      (pss_one (ps_ret (pv 1))))), ?_⟩
    refine q_asgL (el_lst ea_nil (by decide)) fun ta H1 hta e1 h1 => ?_
    have len : Ev (tCB (rLenS K) (tCons (tVar 0) tNil)) [some (.ref a), some (.ref ta), none, none, none] H1 (.int (ns.length : Int)) := ev_is (ev_len (ev_var rfl) (ex_l e1 hS)) (by rw [List.length_map])
    refine q_forR1 (n := (ns.length : Int)) (ea_cons len ea_nil) ⟨by omega, by omega⟩
      (fun i σ' H' => ∃ ts y2 y3 y4, σ' = [some (.ref a), some (.ref ta), y2, y3, y4] ∧ Ex H H' ∧ H' ta = some (.lst (ts.map V.int)) ∧ Good ts ∧ ts.length ≤ 60 * i)
      (fun H2 e2 => ⟨[], none, none, none, rfl, e1.trans e2, e2 _ _ h1, (fun _ z => by cases z), by simp⟩) ?_ ?_
    · rintro i σ' H' hi ⟨ts, y2, y3, y4, rfl, e0, ht, hg, hl⟩
      have hi' : i < ns.length := by omega
      refine q_asg (ev_cb (ea_cons (ev_cb (ea_cons (ev_op (ev_var rfl) (ev_var rfl) (rv_ixL (ex_l e0 hS) (atI_nat (v := .int ns[i]) (by rw [List.getElem?_map, List.getElem?_eq_getElem hi']; rfl)))) ea_nil) (fun H1 _ Q q => .inl ⟨_, rfl, q _ (Ex.refl _)⟩)) ea_nil) (fun H1 _ Q q => ⟨_, rfl, q _ (Ex.refl _)⟩)) fun H2 e2 => ?_
      generalize (if ns[i] < 0 then -ns[i] else ns[i]) = v
      refine s_if (et_test (ev_op (ev_var rfl) (ev_op ev_c ev_c (rv_I ⟨by decide, by decide, by decide⟩)) rv_I0)) (fun _ H3 e3 => ?_) (fun _ H3 e3 => ?_)
      · refine s_forR1 (n := 60) (ea_cons ev_c ea_nil) ⟨by decide, by decide⟩ (fun j σ2 H4 => ∃ us z y4, σ2 = [some (.ref a), some (.ref ta), some (.int (i : Int)), some (.int z), y4] ∧ Ex H H4 ∧ H4 ta = some (.lst (us.map V.int)) ∧ Good us ∧ us.length ≤ 60 * i + j)
          (fun H4 e4 => ⟨ts, v, y4, rfl, ((e0.trans e2).trans e3).trans e4, ((e2.trans e3).trans e4) _ _ ht, hg, by omega⟩) ?_ ?_
        · rintro j σ2 H4 hj ⟨us, z, y4', rfl, e4, hu, hgu, hlu⟩
          refine s_when (et_test (ev_op (ev_var rfl) ev_c rv_I0)) (fun _ H5 e5 => ?_) (fun _ H5 e5 => ⟨us, z, _, rfl, e4.trans e5, e5 _ _ hu, hgu, by omega⟩)
          refine q_app (v := .int (z % 1000)) (e5 _ _ hu) (ev_var rfl) (ev_op (ev_var rfl) ev_c (rv_I (by show (0 : Int) < 1000; decide))) (by rw [List.length_map]; omega) fun H6 e6 => ?_
          have nta : H ta = none := hta
          refine s_asg (ev_op (ev_var rfl) ev_c (rv_I ⟨by decide, by decide⟩)) fun H7 e7 => ⟨us ++ [z % 1000], _, _, rfl, ((e4.trans e5).trans e6).mut nta |>.trans e7, ?_, hgu.snoc (by omega) (by omega), by rw [List.length_append, List.length_singleton]; omega⟩
          rw [e7 ta _ upd_same, List.map_append]
          rfl
        · rintro σ2 H4 ⟨us, z, y4', rfl, e4, hu, hgu, hlu⟩
          exact ⟨us, _, _, _, rfl, e4, hu, hgu, by show us.length ≤ 60 * (i + 1); have : us.length ≤ 60 * i + (60 : Int).toNat := hlu; omega⟩
      · refine s_forR1 (n := 4) (ea_cons ev_c ea_nil) ⟨by decide, by decide⟩ (fun j σ2 H4 => ∃ us z y4, σ2 = [some (.ref a), some (.ref ta), some (.int (i : Int)), some (.int z), y4] ∧ Ex H H4 ∧ H4 ta = some (.lst (us.map V.int)) ∧ Good us ∧ us.length ≤ 60 * i + j)
          (fun H4 e4 => ⟨ts, v, y4, rfl, ((e0.trans e2).trans e3).trans e4, ((e2.trans e3).trans e4) _ _ ht, hg, by omega⟩) ?_ ?_
        · rintro j σ2 H4 hj ⟨us, z, y4', rfl, e4, hu, hgu, hlu⟩
          refine q_asg (ev_op (ev_op (ev_op (ev_op (ev_var rfl) ev_c (rv_I (.inr ⟨by decide, by decide⟩))) (ev_op ev_c (ev_op (ev_var rfl) ev_c rv_I0) (rv_I (.inl ⟨by decide, by decide⟩))) rv_I0) (ev_op ev_c (ev_var rfl) (rv_I (.inl ⟨by decide, by decide⟩))) rv_I0) ev_c (rv_I (by show (0 : Int) < 2147483647; decide))) fun H5 e5 => ?_
          refine q_asg (ev_op (ev_op (ev_var rfl) ev_c (rv_I (.inr ⟨by decide, by decide⟩))) ev_c (rv_I (by show (0 : Int) < 2147483647; decide))) fun H6 e6 => ?_
          generalize (z * 48271 + 69621 * ((i : Int) + 1) + 7 * (j : Int)) % 2147483647 * 16807 % 2147483647 = z2
          refine s_app (v := .int (z2 / 1000 % 1000)) ((e5.trans e6) _ _ hu) (ev_var rfl) (ev_op (ev_op (ev_var rfl) ev_c (rv_I ⟨by decide, by decide⟩)) ev_c (rv_I (by show (0 : Int) < 1000; decide))) (by rw [List.length_map]; omega) fun H7 e7 => ⟨us ++ [z2 / 1000 % 1000], z2, _, rfl, (((e4.trans e5).trans e6).trans e7).mut hta, ?_, hgu.snoc (by omega) (by omega), by rw [List.length_append, List.length_singleton]; omega⟩
          rw [upd_same, List.map_append]
          rfl
        · rintro σ2 H4 ⟨us, z, y4', rfl, e4, hu, hgu, hlu⟩
          exact ⟨us, _, _, _, rfl, e4, hu, hgu, by show us.length ≤ 60 * (i + 1); have : us.length ≤ 60 * i + (4 : Int).toNat := hlu; omega⟩
    · rintro σ' H' ⟨ts, y2, y3, y4, rfl, e0, ht, hg, hl⟩
      exact s_ret (ev_var rfl) fun H2 e2 => q ta H2 ts hta (e0.trans e2) (e2 _ _ ht) hg (by have : ts.length ≤ 60 * (ns.length : Int).toNat := hl; omega)
theorem ok_at {f : Addr} {fd : FuncData} (F : Fun K "_law_at" "_law_at" sAt f fd) (T : Txt mg ) : FnOk P w K mg base CX0 1 f fd ["tape", "k"] (spCel K) := by
  refine F.ok scAt (fun vs H Q E h => ?_) (fun cdv A outer s H vs Q E hr h => ?_)
  · obtain ⟨a, ns, k, rfl, _⟩ := h
    rfl
  · obtain ⟨a, ns, k, rfl, hS, q⟩ := h
    refine ⟨_, (pss_cons (ps_if (pt_cmpR op_lt (pv 1) (pe_callB call_len_seq (by rfl) T.len (by decide +kernel) (pa_cons (pv 0) pa_nil)) (nomark _)) (pss_one (ps_ret (pe_ix ix_list (pv 0) (pv 1) (fun _ _ => rfl)))) pss_nil)
      (pss_one (ps_ret pe_int))), ?_⟩
    refine q_when (et_test (ev_op (ev_var rfl) (ev_len (ev_var rfl) hS) rv_I0)) (fun hb H1 e1 => ?_) (fun hb H1 e1 => ?_)
    · have hk : k < ns.length := by
        have := of_decide_eq_true hb
        rw [List.length_map] at this
        omega
      exact s_ret (ev_op (ev_var rfl) (ev_var rfl) (rv_ixL (ex_l e1 hS) (atI_nat (cellv_in hk)))) fun H2 e2 => q H2 (e1.trans e2)
    · have hk : ns.length ≤ k := by
        have := of_decide_eq_false hb
        rw [List.length_map] at this
        omega
      rw [cellv_out hk] at q
      exact s_ret ev_c fun H2 e2 => q H2 (e1.trans e2)
end

/-! ### what the law writes before it begins -/
theorem due_app (f : Nat → List Int) (a b : List (Nat × List Int)) : K23D.due f (a ++ b) = K23D.due (K23D.due f a) b := by
  unfold K23D.due
  rw [List.foldl_append]
theorem due_wb (f : Nat → List Int) (ws : List (Nat × List Int)) (i : Nat) (ns : List Int) (s : Nat) : K23D.due f (ws ++ wb i ns 4) s = if 4 * i ≤ s ∧ s < 4 * i + 4 then (ns.drop (8 * (s - 4 * i))).take 8 else K23D.due f ws s := by
  rw [due_app]
  generalize K23D.due f ws = g
  show fset (fset (fset (fset g (4 * i + 0) ((ns.drop (8 * 0)).take 8)) (4 * i + 1) ((ns.drop (8 * 1)).take 8)) (4 * i + 2) ((ns.drop (8 * 2)).take 8)) (4 * i + 3) ((ns.drop (8 * 3)).take 8) s = _
  unfold fset
  by_cases h3 : s = 4 * i + 3
  · rw [if_pos h3, if_pos (by omega), show s - 4 * i = 3 by omega]
  · rw [if_neg h3]
    by_cases h2 : s = 4 * i + 2
    · rw [if_pos h2, if_pos (by omega), show s - 4 * i = 2 by omega]
    · rw [if_neg h2]
      by_cases h1 : s = 4 * i + 1
      · rw [if_pos h1, if_pos (by omega), show s - 4 * i = 1 by omega]
      · rw [if_neg h1]
        by_cases h0 : s = 4 * i + 0
        · rw [if_pos h0, if_pos (by omega), show s - 4 * i = 0 by omega]
        · rw [if_neg h0, if_neg (by omega)]
theorem blk_wb (f : Nat → List Int) (ws : List (Nat × List Int)) (i : Nat) {ns : List Int} (h : ns.length = 32) : blk (K23D.due f (ws ++ wb i ns 4)) i = ns := by
  unfold blk
  rw [due_wb, due_wb, due_wb, due_wb, if_pos (by omega), if_pos (by omega), if_pos (by omega), if_pos (by omega), show 4 * i - 4 * i = 0 by omega, show 4 * i + 1 - 4 * i = 1 by omega, show 4 * i + 2 - 4 * i = 2 by omega, show 4 * i + 3 - 4 * i = 3 by omega]
  have e3 : (ns.drop (8 * 3)).take 8 = ns.drop 24 := List.take_of_length_le (by rw [List.length_drop]; omega)
  have e2 : (ns.drop 16).take 8 ++ ns.drop 24 = ns.drop 16 := by
    have := List.take_append_drop 8 (ns.drop 16)
    rwa [List.drop_drop] at this
  have e1 : (ns.drop 8).take 8 ++ ns.drop 16 = ns.drop 8 := by
    have := List.take_append_drop 8 (ns.drop 8)
    rwa [List.drop_drop] at this
  rw [e3, List.append_assoc, e2, List.append_assoc, e1]
  exact List.take_append_drop 8 ns
theorem blk_ot (f : Nat → List Int) (ws : List (Nat × List Int)) {i j : Nat} (ns : List Int) (h : j ≠ i) : blk (K23D.due f (ws ++ wb i ns 4)) j = blk (K23D.due f ws) j := by
  unfold blk
  rw [due_wb, due_wb, due_wb, due_wb, if_neg (by omega), if_neg (by omega), if_neg (by omega), if_neg (by omega)]
/-- the blocks from 5 to 4 + i are written and told -/
structure SU (G : Hp) (kvs : List (Key × V)) (cs : List Int) (g : Nat → List Int) (i : Nat) : Prop where
  l : kvs.length ≤ 2 * i
  c : ∀ j : Nat, 5 ≤ j → j < 5 + i → ∃ x, valV kvs (.inl (j : Int)) = some (.ref x) ∧ G x = some (.lst ((blk g j).map V.int)) ∧ (blk g j).length = 32
  z : ∀ j : Nat, 5 + i ≤ j ∨ 25 ≤ j → blk g j = List.replicate 32 0
  n : cs.length = 96
  p : ∀ x, x < 96 → 0 ≤ cv cs x
theorem SU.step {G G' : Hp} {kvs kvs' : List (Key × V)} {cs cs' : List Int} {g g' : Nat → List Int} {i : Nat} {x : Addr} {ns : List Int} (s : SU G kvs cs g i) (e : Ex G G') (hl : kvs'.length ≤ kvs.length + 2) (hv : valV kvs' (.inl ((5 + i : Nat) : Int)) = some (.ref x)) (ho : ∀ j : Nat, j ≠ 5 + i → valV kvs' (.inl (j : Int)) = valV kvs (.inl (j : Int))) (hx : G' x = some (.lst (ns.map V.int))) (h32 : ns.length = 32) (hg : ∀ j, j ≠ 5 + i → blk g' j = blk g j) (hi : blk g' (5 + i) = ns) (hz : 25 ≤ 5 + i → ns = List.replicate 32 0) (hn : cs'.length = 96) (hp : ∀ x, x < 96 → 0 ≤ cv cs' x) : SU G' kvs' cs' g' (i + 1) := by
  refine ⟨by have := s.l; omega, fun j h5 hj => ?_, fun j hj => ?_, hn, hp⟩
  · by_cases ej : j = 5 + i
    · subst ej
      rw [hv, hi]
      exact ⟨x, rfl, hx, h32⟩
    · rw [ho j ej, hg j ej]
      obtain ⟨y, a, b, c⟩ := s.c j h5 (by omega)
      exact ⟨y, a, e _ _ b, c⟩
  · by_cases ej : j = 5 + i
    · rw [ej, hi]
      exact hz (by omega)
    · rw [hg j ej]
      exact s.z j (by omega)
theorem put_v {kvs : List (Key × V)} {i : Nat} {v : V} : valV (putK kvs (.inl (i : Int))  v) (.inl (i : Int)) = some v := by rw [valV_put, if_pos rfl]
theorem put_o {kvs : List (Key × V)} {i : Nat} {v : V} (j : Nat) (h : j ≠ i) : valV (putK kvs (.inl (i : Int)) v) (.inl (j : Int)) = valV kvs (.inl (j : Int)) := by rw [valV_put, if_neg (fun z => h (by have := Sum.inl.inj z; omega))]

end K23

set_option Elab.async false
set_option linter.all false
set_option maxRecDepth 100000
set_option maxHeartbeats 4000000
namespace K23
open PySem PySem.Spec PyProof.Rows L2 Evl LK LT LG LS LQ LX LO LN LP LH LV LZ LW StX LD
open K23D (DK Dk St)
open K23S (fr cv hv headV used In flds)
section
variable {K : PySem.W.Frag} {σ : L2.St} {H : Hp} {td tk : TE} {tA : TA} {D : Ends} {tz : TS} {d : Addr} {kvs : List (Key × V)} {z : Int} {v : V} {sp : Sp} {E : XK} {vs : List V}
theorem dput_fin (hd : Ev td σ H (.ref d)) (hk : Ev tk σ H (.int z)) (h : H d = some (.dK kvs)) (hl : kvs.length < 100000) (k : ∀ H1, Ex H H1 → tz D σ (upd H1 d (.dK (putK kvs (.inl z) v)))) : tSeq (sDPut td tk (fun _ H Q => Q v H)) tz D σ H :=
  hd H (Ex.refl _) _ fun H1 e1 => hk H1 e1 _ fun H2 e2 => ⟨d, _, rfl, DPut.k (k := Sum.inl z) ((e1.trans e2) _ _ h) (sz_lt hl), k H2 (e1.trans e2)⟩
theorem q_dputK (hv : EvA tA σ H vs) (k : ∀ H1, Ex H H1 → sp vs H1 (fun v H2 => tSeq (sDPut td tk (fun _ H Q => Q v H)) tz D σ H2) E) : tSeq (sDPut td tk (tCall sp [] E tA)) tz D σ H :=
  hv H (Ex.refl _) _ fun H1 e1 => by
    rw [List.append_nil]
    exact k H1 e1
theorem q_dropCall (h : EvA tA σ H vs) (k : ∀ H1, Ex H H1 → sp vs H1 (fun _ H2 => tz D σ H2) E) : tSeq (tDrop (tCall sp [] E tA)) tz D σ H :=
  h H (Ex.refl _) _ fun H1 e1 => by
    rw [List.append_nil]
    exact k H1 e1
theorem pick4 {z : Int} (h0 : 0 ≤ z) (h : z < 4) : ∃ m : Int, 0 ≤ m ∧ atI (([0, 1, 2, 1] : List Int).map V.int) z = some (.int m) := by
  obtain ⟨k, rfl⟩ : ∃ k : Nat, z = k := ⟨z.toNat, by omega⟩
  rcases (by omega : k = 0 ∨ k = 1 ∨ k = 2 ∨ k = 3) with rfl | rfl | rfl | rfl
  · exact ⟨0, by decide, rfl⟩
  · exact ⟨1, by decide, rfl⟩
  · exact ⟨2, by decide, rfl⟩
  · exact ⟨1, by decide, rfl⟩
theorem cv_set {cs : List Int} {i : Nat} {v : Int} (hi : i < cs.length) (x : Nat) : cv (cs.set i v) x = if x = i then v else cv cs x := by
  unfold K23S.cv
  rw [List.getD_eq_getElem?_getD, List.getD_eq_getElem?_getD, List.getElem?_set]
  by_cases e : i = x
  · rw [if_pos e, if_pos hi, if_pos e.symm]
    rfl
  · rw [if_neg e, if_neg (fun z => e z.symm)]
/-- an address apart from the disk's -/
def Ap (x p ka sa wa : Addr) : Prop := x ≠ p ∧ x ≠ ka ∧ x ≠ sa ∧ x ≠ wa
end
def Z32 : List Int := List.replicate 32 0
def cs0 : List Int := List.replicate 5 1 ++ List.replicate 91 0
def spLaw (K : PySem.W.Frag) (Pw : Addr) : Sp := fun vs H Q _ => ∃ (a : Addr) (ns : List Int), vs = [.ref a] ∧ SqL K H a (ns.map V.int) ∧ ns.length ≤ 63 ∧ Tab H Pw ∧ ∀ H', Ex H H' → Q (.bl true) H'
open K23D (aftN due stepA due_snoc due_len getD_in) in
theorem aft_due {f : Nat → List Int} {ws : List (Nat × List Int)} (hf : ∀ s, (f s).length = 8) (hw : ∀ w ∈ ws, w.2.length = 8) : ∀ i, i ≤ ws.length → aftN f ws (fun _ => 8) i = due f (ws.take i)
  | 0, _ => rfl
  | i + 1, h => by
    have hi : i < ws.length := by omega
    have hwi := List.getElem?_eq_getElem hi
    have e : ws.take (i + 1) = ws.take i ++ [ws[i]] := by rw [List.take_add_one, hwi]; rfl
    rw [e, due_snoc]
    show stepA (aftN f ws (fun _ => 8) i) (ws.getD i (0, [])) 8 = _
    rw [aft_due hf hw i (by omega), getD_in hwi]
    have h8 := hw _ (List.getElem_mem hi)
    have hd := due_len hf (ws := ws.take i) (fun w hm => hw w (List.mem_of_mem_take hm)) (ws[i]).1
    unfold stepA
    rw [List.take_of_length_le (l := (ws[i]).2) (by omega), List.drop_eq_nil_of_le (by omega), List.append_nil]

/-- x = T(e, H(e, a new tuple, e), S(e)) -/
theorem q_mk3 {CT CH CS : Addr} {spT spH spS : Sp} {E1 E2 E3 : XK} {σ : L2.St} {H : Hp} {t3 ta tt tn tu : TE} {v3 va vn vu : V} {xs : List V} {i : Nat} {tz : TS} {D : Ends} (h3 : Ev t3 σ H v3) (ha : ∀ H1, Ex H H1 → Ev ta σ H1 va) (ht : ∀ H1, Ex H H1 → EvU tt σ H1 xs) (hn : ∀ H1, Ex H H1 → Ev tn σ H1 vn)
    (k : ∀ tb hp dh H1 H2, H tb = none → H1 tb = some (.tup xs) → Ex H H1 → H1 hp = none → H2 hp = some (.ins CH dh []) → Ex H1 H2 → spH [.ref hp, va, .ref tb, vn] H2 (fun v H3 => v = .non ∧ ∃ H4, H4 = H3 ∧ Ev tu σ H3 vu ∧ ∀ H5 sp ds H6, Ex H3 H5 → H5 sp = none → H6 sp = some (.ins CS ds []) → Ex H5 H6 → spS [.ref sp, vu] H6 (fun v H7 => v = .non ∧ ∀ q dq H8, H7 q = none → H8 q = some (.ins CT dq []) → Ex H7 H8 → spT [.ref q, v3, .ref hp, .ref sp] H8 (fun v H9 => v = .non ∧ tz D (σ.set i (some (.ref q))) H9) E1) E3) E2)
    (mH : ∀ {vs : List V} {A : Hp} {Q Q' : VK}, spH vs A Q E2 → (∀ v B, Q v B → Q' v B) → spH vs A Q' E2) (mS : ∀ {vs : List V} {A : Hp} {Q Q' : VK}, spS vs A Q E3 → (∀ v B, Q v B → Q' v B) → spS vs A Q' E3) : tSeq (tAsg (tMake CT spT [] E1 (tCons t3 (tCons (tMake CH spH [] E2 (tCons ta (tCons tt (tCons tn tNil)))) (tCons (tMake CS spS [] E3 (tCons tu tNil)) tNil)))) (gName i)) tz D σ H :=
  h3 H (Ex.refl _) _ fun H1 e1 => ha H1 e1 H1 (Ex.refl _) _ fun H2 e2 => ht H2 (e1.trans e2) H2 (Ex.refl _) _ fun tb H3 htb e3 h3x => hn H3 ((e1.trans e2).trans e3) H3 (Ex.refl _) _ fun H4 e4 hp dh hhp hdh hne => by
    have e14 := ((e1.trans e2).trans e3).trans e4
    have h := k tb hp dh H4 (upd (upd H4 dh (.own hp)) hp (.ins CH dh [])) (fresh_back (e1.trans e2) htb) (e4 _ _ h3x) e14 hhp upd_same ((Ex.new hdh).mut hhp)
    refine mH h fun v B hb => ?_
    obtain ⟨hv, _, _, hu, hk⟩ := hb
    refine ⟨hv, hu B (Ex.refl _) _ fun B1 b1 sp ds hsp hds hne2 => ?_⟩
    have h2 := hk B1 sp ds (upd (upd B1 ds (.own sp)) sp (.ins CS ds [])) b1 hsp upd_same ((Ex.new hds).mut hsp)
    refine mS h2 fun v B2 hb2 => ⟨hb2.1, fun q dq hq hdq hne3 => ?_⟩
    exact hb2.2 q dq (upd (upd B2 dq (.own q)) q (.ins CT dq [])) hq upd_same ((Ex.new hdq).mut hq)
theorem spHin_mono {c : Cc} {E : XK} {vs : List V} {A : Hp} {Q Q' : VK} (h : spHin c vs A Q E) (m : ∀ v B, Q v B → Q' v B) : spHin c vs A Q' E := by
  obtain ⟨p, tb, dx, g, n, h1, h2, h3⟩ := h
  exact ⟨p, tb, dx, g, n, h1, h2, fun H1 a b => m _ _ (h3 H1 a b)⟩
theorem spSin_mono {K : PySem.W.Frag} {C : Addr} {E : XK} {vs : List V} {A : Hp} {Q Q' : VK} (h : K23S.spInit K C vs A Q E) (m : ∀ v B, Q v B → Q' v B) : K23S.spInit K C vs A Q' E := by
  obtain ⟨p, u, dx, cs, h1, h2, h3, h4, h5⟩ := h
  exact ⟨p, u, dx, cs, h1, h2, h3, h4, fun cl hl H1 a b c d e => m _ _ (h5 cl hl H1 a b c d e)⟩

theorem dk_joinX {C : Addr} {G H H1 : Hp} {p ka sa wa : Addr} {n : Nat} {d : Dk} (D : DK C G H p ka sa wa n d) (e : Ex H H1) (X : Addr → Prop) (hX : ∀ a, X a → H a = none) : ∃ G', St G H G' H1 ∧ DK C G' H1 p ka sa wa n d ∧ (∀ a o, H a = none → ¬ X a → H1 a = some o → G' a = some o) ∧ ∀ a, X a → G' a = none := by
  have ge := D.g.trans e
  have gg : Ex G (grow G H H1 X) := grow_ex
  obtain ⟨ap, ak, as, aw⟩ := D.al
  refine ⟨grow G H H1 X, ⟨gg, fun a h g => grow_no h g, fun a h z => h (fresh_back e z)⟩, ?_, fun a o h x h1 => grow_new (fresh_back D.g h) h x h1, fun a x => grow_X x (fresh_back D.g (hX a x))⟩
  exact ⟨grow_sub ge, grow_no ap D.gp, grow_no ak D.gk, grow_no as D.gs, grow_no aw D.gw, D.nks, D.nkw, D.nsw, let ⟨dx, h⟩ := D.o; ⟨dx, e _ _ h⟩, D.k.ex gg e, D.s.ex gg e, D.w.ex gg e, D.n0, D.n1, D.wl, D.ok, D.kz⟩

end K23

set_option Elab.async false
set_option linter.all false
set_option maxRecDepth 100000
set_option maxHeartbeats 4000000
namespace K23
open PySem PySem.Spec PyProof.Rows L2 Evl LK LT LG LS LQ LX LO LN LP LH LV LZ LW StX LD
open K23D (DK Dk St)
open K23S (fr cv hv headV used In flds)
/-! ### a turn of the law -/
def forBody : Stmt → List Stmt
  | .For _ _ b _ _ => b
  | _ => []
def loopS : List Stmt := forBody ((defBody sLaw).getD 12 (.Pass ⟨0, 0, 0, 0⟩))
def acts11 : List Str := ["make", "make", "write", "write", "read", "read", "share", "drop", "drop", "new", "uses"]
theorem pick11 {z : Int} (h0 : 0 ≤ z) (h : z < 11) : ∃ act : Str, atI (acts11.map V.str) z = some (.str act) ∧ (act = "make" ∨ act ∈ acts6) := by
  obtain ⟨j, rfl⟩ : ∃ j : Nat, z = j := ⟨z.toNat, by omega⟩
  have hj : j < acts11.length := by show j < 11; omega
  have hall : ∀ a ∈ acts11, a = "make" ∨ a ∈ acts6 := by decide +kernel
  exact ⟨acts11[j], atI_nat (by rw [List.getElem?_map, List.getElem?_eq_getElem hj]; rfl), hall _ (List.getElem_mem hj)⟩
theorem pick6 {z f g : Int} (hf : 0 ≤ f) (hg : 0 ≤ g) (h0 : 0 ≤ z) (h : z < 6) : ∃ r : Int, atI [V.int 0, .int 0, .int 40, .int 60, .int f, .int g] z = some (.int r) ∧ 0 ≤ r := by
  obtain ⟨j, rfl⟩ : ∃ j : Nat, z = j := ⟨z.toNat, by omega⟩
  rcases (by omega : j = 0 ∨ j = 1 ∨ j = 2 ∨ j = 3 ∨ j = 4 ∨ j = 5) with rfl | rfl | rfl | rfl | rfl | rfl
  · exact ⟨0, rfl, by decide⟩
  · exact ⟨0, rfl, by decide⟩
  · exact ⟨40, rfl, by decide⟩
  · exact ⟨60, rfl, by decide⟩
  · exact ⟨f, rfl, hf⟩
  · exact ⟨g, rfl, hg⟩
theorem WordsR.ex {H H1 : Hp} {k : Sk} {u : Addr} {b : Bool} (h : WordsR H k u b) (e : Ex H H1) : WordsR H1 k u b := by
  cases b with
  | true =>
    obtain ⟨ws, a, b, c⟩ := h
    exact ⟨ws, e _ _ a, b, c⟩
  | false =>
    rcases h with ⟨xs, a, b, c, d⟩ | ⟨xs, a⟩
    · exact .inl ⟨xs, e _ _ a, fun x hx => (let ⟨n, h⟩ := b x hx; ⟨n, h.mono e⟩), c, d⟩
    · exact .inr ⟨xs, e _ _ a⟩
section
variable {K : PySem.W.Frag} {σ : L2.St} {H : Hp} {t1 t2 t3 t4 t5 ti : TE} {D : Ends} {sp : Sp} {E : XK}
theorem s_pick5 {i : Nat} {z : Int} {x1 x2 x3 x4 x5 : List V} (h1 : EvL t1 σ H x1) (h2 : EvL t2 σ H x2) (h3 : EvL t3 σ H x3) (h4 : EvU t4 σ H x4) (h5 : EvL t5 σ H x5) (hi : Ev ti σ H (.int z)) (z0 : 0 ≤ z) (z5 : z < 5)
    (k : ∀ u H1, Ex H H1 → H u = none → (H1 u = some (.lst x1) ∨ H1 u = some (.lst x2) ∨ H1 u = some (.lst x3) ∨ H1 u = some (.tup x4) ∨ H1 u = some (.lst x5)) → D.nx (σ.set i (some (.ref u))) H1) :
    tAsg (tOp (rIxL K) (tLst (tCons t1 (tCons t2 (tCons t3 (tCons t4 (tCons t5 tNil)))))) ti) (gName i) D σ H :=
  h1 H (Ex.refl _) _ fun a1 A1 n1 e1 g1 => h2 A1 e1 _ fun a2 A2 n2 e2 g2 => h3 A2 (e1.trans e2) _ fun a3 A3 n3 e3 g3 => h4 A3 ((e1.trans e2).trans e3) _ fun a4 A4 n4 e4 g4 => h5 A4 (((e1.trans e2).trans e3).trans e4) _ fun a5 A5 n5 e5 g5 => by
    have x12 := e1.trans e2
    have x13 := x12.trans e3
    have x14 := x13.trans e4
    have x15 := x14.trans e5
    refine ⟨sz_of (Nat.le_of_ble_eq_true rfl), fun L hL => hi _ (x15.trans (Ex.new hL)) _ fun A6 e6 => ?_⟩
    have x56 := (Ex.new (o := .lst [.ref a1, .ref a2, .ref a3, .ref a4, .ref a5]) hL).trans e6
    have hLL := e6 _ _ (upd_same (o := .lst [.ref a1, .ref a2, .ref a3, .ref a4, .ref a5]))
    obtain ⟨j, rfl⟩ : ∃ j : Nat, z = j := ⟨z.toNat, by omega⟩
    rcases (by omega : j = 0 ∨ j = 1 ∨ j = 2 ∨ j = 3 ∨ j = 4) with rfl | rfl | rfl | rfl | rfl
    · exact ⟨L, _, _, .ref a1, rfl, rfl, sq_of hLL, rfl, k a1 A6 (x15.trans x56) n1 (.inl (((((e2.trans e3).trans e4).trans e5).trans x56) _ _ g1))⟩
    · exact ⟨L, _, _, .ref a2, rfl, rfl, sq_of hLL, rfl, k a2 A6 (x15.trans x56) (fresh_back e1 n2) (.inr (.inl ((((e3.trans e4).trans e5).trans x56) _ _ g2)))⟩
    · exact ⟨L, _, _, .ref a3, rfl, rfl, sq_of hLL, rfl, k a3 A6 (x15.trans x56) (fresh_back x12 n3) (.inr (.inr (.inl (((e4.trans e5).trans x56) _ _ g3))))⟩
    · exact ⟨L, _, _, .ref a4, rfl, rfl, sq_of hLL, rfl, k a4 A6 (x15.trans x56) (fresh_back x13 n4) (.inr (.inr (.inr (.inl ((e5.trans x56) _ _ g4)))))⟩
    · exact ⟨L, _, _, .ref a5, rfl, rfl, sq_of hLL, rfl, k a5 A6 (x15.trans x56) (fresh_back x14 n5) (.inr (.inr (.inr (.inr (x56 _ _ g5)))))⟩
theorem q_notC {tA : TA} {tu tz : TS} {vs : List V} (ht : EvA tA σ H vs) (k : ∀ H1, Ex H H1 → sp vs H1 (fun v H2 => tSeq (tIfS (tNot (tB (fun _ H Q => Q v H))) tu tNext) tz D σ H2) E) : tSeq (tIfS (tNot (tB (tCall sp [] E tA))) tu tNext) tz D σ H :=
  ht H (Ex.refl _) _ fun H1 e1 => by
    rw [List.append_nil]
    exact k H1 e1
theorem not_fin {tu tz : TS} (h : tz D σ H) : tSeq (tIfS (tNot (tB (fun _ H Q => Q (.bl true) H))) tu tNext) tz D σ H := ⟨true, rfl, h⟩
theorem s_callU3 {i : Nat} {v1 v2 v4 : V} {xs : List V} (h1 : Ev t1 σ H v1) (h2 : Ev t2 σ H v2) (h3 : EvU t3 σ H xs) (h4 : Ev t4 σ H v4) (k : ∀ t H1, H t = none → Ex H H1 → H1 t = some (.tup xs) → sp [v1, v2, .ref t, v4] H1 (fun v H2 => D.nx (σ.set i (some v)) H2) E) : tAsg (tCall sp [] E (tCons t1 (tCons t2 (tCons t3 (tCons t4 tNil))))) (gName i) D σ H :=
  h1 H (Ex.refl _) _ fun H1 e1 => h2 H1 e1 _ fun H2 e2 => h3 H2 (e1.trans e2) _ fun t H3 n3 e3 g3 => h4 H3 ((e1.trans e2).trans e3) _ fun H4 e4 => k t H4 (fresh_back (e1.trans e2) n3) (((e1.trans e2).trans e3).trans e4) (e4 _ _ g3)
theorem el_slN {te : TE} {tl th : TO} {xs : List V} {lo hi : Option Int} (h : EvL te σ H xs) (h1 : ∀ H1, Ex H H1 → EvO tl σ H1 lo) (h2 : ∀ H1, Ex H H1 → EvO th σ H1 hi) : EvL (tSl (rSlL K) te tl th) σ H (cutV xs lo hi) := fun H1 e Q q =>
  h H1 e _ fun a H2 ha e2 g2 => h1 H2 (e.trans e2) H2 (Ex.refl _) _ fun H3 e3 => h2 H3 ((e.trans e2).trans e3) H3 (Ex.refl _) _ fun H4 e4 => ⟨a, xs, rfl, sq_of ((e3.trans e4) _ _ g2), fun p hp => q p _ (fresh_back ((e2.trans e3).trans e4) hp) (((e2.trans e3).trans e4).trans (Ex.new hp)) upd_same⟩
end
theorem cut_last (ns : List Int) : ∃ ms : List Int, cutV (ns.map V.int) (some (-1)) none = ms.map V.int ∧ ms.length ≤ 1 := by
  refine ⟨(ns.drop (HT.sIx ns.length 0 (some (-1)))).take (ns.length - HT.sIx ns.length 0 (some (-1))), ?_, ?_⟩
  · unfold cutV
    rw [List.length_map, ← List.map_drop, ← List.map_take]
    rfl
  · rw [List.length_take, List.length_drop]
    show min (ns.length - (-1 + (ns.length : Int)).toNat) _ ≤ 1
    omega
theorem out_non {H : Hp} {v : V} {o : Out} (h : IsOut H v o) (ho : o ≠ .val .non) : decide (v = V.non) = false := decide_eq_false fun e => by
  subst e
  cases o with
  | val u => exact ho (congrArg Out.val (Eq.symm h))
  | ref b =>
    obtain ⟨q, e1, _⟩ := h
    cases e1
theorem not_okB_len {xs : List V} (h : xs.length ≠ 32) : ¬ okB xs := fun ⟨ws, e, l, _⟩ => h (by rw [e, List.length_map, l])
def TI (c : Cc) (G5 : Hp) (a ta p cd na im ha q : Addr) (g : Int) (k : Sk) (m : Nat) (σ : L2.St) (B : Hp) : Prop := ∃ (G : Hp) (d : Sd) (C : Nat → List Int) (ra : Addr) (rs : List Int) (y6 y11 y12 y13 y14 y15 y16 y17 y18 : Option V), σ = [some (.ref a), some (.ref ta), some (.int g), some (.ref p), some (.ref cd), some (.ref na), y6, some (.ref im), some (.ref ha), some (.ref q), some (.ref ra), y11, y12, y13, y14, y15, y16, y17, y18, none] ∧ LJ c G B q k d na ha cd im C m ∧ Ex G5 G ∧ G ra = some (.lst (rs.map V.int)) ∧ 9 ≤ rs.length ∧ rs.length ≤ 9 + m
inductive Aft (c : Cc) (G : Hp) (q : Addr) (k : Sk) (d : Sd) (na ha cd im : Addr) (C : Nat → List Int) (m : Nat) (u : Addr) : Str → Int → Bool → Out → V → V → Hp → Prop
  | same {act : Str} {z : Int} {vd : Bool} {o : Out} {v2 v3 : V} {B : Hp} (J : LJ c G B q k d na ha cd im C m) (h2 : IsOut B v2 o) (h3 : IsOut B v3 o) (hg : good o) (hn : act = "read" ∨ act = "write" ∨ act = "share" → o ≠ .val .non) (hd : act = "drop" → o = .ref false) : Aft c G q k d na ha cd im C m u act z vd o v2 v3 B
  | read {i : Nat} {l : Addr} {vd : Bool} {B : Hp} (J : LJ c G B q k d na ha cd im C m) (h5 : 5 ≤ i) (hi : i < 96) (gl : G l = none) (hl : B l = some (.lst ((C i).map V.int))) : Aft c G q k d na ha cd im C m u "read" (i : Int) vd (.val .non) .non (.ref l) B
  | write {i : Nat} {ws : List Int} {B0 B G1 : Hp} (J : LJ c G B0 q k d na ha cd im C m) (hi : i < 96) (hn : newB k d i = true) (h32 : ws.length = 32) (t : ST c G1 B q k { d with mem := setM d.mem i (some ws) }) (g1 : Ex G G1) (gn : G1 na = none) (gd : G1 cd = none) (hna : B na = some (.lst (d.cs.map V.int))) (hcd : ∃ kvs, B cd = some (.dK kvs) ∧ CD G kvs C m) (hu : B u = some (.lst (ws.map V.int))) : Aft c G q k d na ha cd im C m u "write" (i : Int) true (.val .non) .non .non B
  | share {i : Nat} {vd : Bool} {B0 B : Hp} (J : LJ c G B0 q k d na ha cd im C m) (hi : i < 96) (h5 : 5 ≤ i) (h0 : cv d.cs i ≠ 0) (t : ST c G B q k { d with cs := d.cs.set i (cv d.cs i + 1) }) (hna : B na = some (.lst (d.cs.map V.int))) (hcd : ∃ kvs, B cd = some (.dK kvs) ∧ CD G kvs C m) : Aft c G q k d na ha cd im C m u "share" (i : Int) vd (.val .non) .non .non B
  | drop {i : Nat} {vd : Bool} {B0 B : Hp} (J : LJ c G B0 q k d na ha cd im C m) (hi : i < 96) (h5 : 5 ≤ i) (h0 : cv d.cs i ≠ 0) (t : ST c G B q k (dropD d i)) (hna : B na = some (.lst (d.cs.map V.int))) (hcd : ∃ kvs, B cd = some (.dK kvs) ∧ CD G kvs C m) : Aft c G q k d na ha cd im C m u "drop" (i : Int) vd (.val (.int (cv d.cs i - 1))) (.int (cv d.cs i - 1)) (.int (cv d.cs i - 1)) B
section
variable {c : Cc} {G G1 G2 H B : Hp} {q na ha cd im : Addr} {k : Sk} {d : Sd} {C : Nat → List Int} {m i : Nat}
theorem blk32 {f : Nat → List Int} (h : ∀ s, (f s).length = 8) (i : Nat) : (blk f i).length = 32 := by
  unfold blk
  rw [List.length_append, List.length_append, List.length_append, h, h, h, h]
/-- a block was written -/
theorem LJ.wrote {kvs : List (Key × V)} {ws : List Int} (J : LJ c G H q k d na ha cd im C m) (hi : i < 96) (hw : newB k d i = true) (h32 : ws.length = 32) (g1 : Ex G G1) (gn : G1 na = none) (gd : G1 cd = none) (t : ST c G1 B q k { d with mem := setM d.mem i (some ws) }) (hna : B na = some (.lst (d.cs.map V.int))) (hcd : B cd = some (.dK kvs)) (hC : CD G1 kvs (fset C i ws) (m + 1)) : LJ c G1 B q k { d with mem := setM d.mem i (some ws) } na ha cd im (fset C i ws) (m + 1) := by
  unfold newB at hw
  obtain ⟨hw1, hw2⟩ := Bool.and_eq_true_iff.mp hw
  obtain ⟨hw3, hw4⟩ := Bool.and_eq_true_iff.mp hw1
  refine ⟨t, J.n96, hna, gn, g1 _ _ J.hha, ⟨kvs, hcd, hC⟩, gd, J.nc, J.dm, J.him.ex g1, fun x h5 h9 => ?_, fun x h9 => ?_, J.ps, ?_⟩
  · unfold fset cont setM
    by_cases e : x = i
    · simp only [if_pos e]
      exact ⟨trivial, h32⟩
    · simp only [if_neg e]
      exact J.ct x h5 h9
  · show setM d.mem i (some ws) x ≠ none ↔ _
    unfold setM
    by_cases e : x = i
    · rw [if_pos e, e]
      exact ⟨fun _ => ⟨of_decide_eq_true hw3, by simpa using hw4⟩, fun _ z => by cases z⟩
    · rw [if_neg e]
      exact J.mi x h9
  · have := memL_put (k := k) (d := d) (d' := { d with mem := setM d.mem i (some ws) }) rfl
    have := J.ml
    omega
theorem LJ.shared {kvs : List (Key × V)} (J : LJ c G H q k d na ha cd im C m) (hi : i < 96) (h0 : cv d.cs i ≠ 0) (t : ST c G B q k { d with cs := d.cs.set i (cv d.cs i + 1) }) (hna : B na = some (.lst ((d.cs.set i (cv d.cs i + 1)).map V.int))) (hcd : B cd = some (.dK kvs)) (hC : CD G kvs C m) : LJ c G B q k { d with cs := d.cs.set i (cv d.cs i + 1) } na ha cd im C (m + 1) := by
  have hl := J.len.1
  have cvs : ∀ x, cv (d.cs.set i (cv d.cs i + 1)) x = if x = i then cv d.cs i + 1 else cv d.cs x := cv_set (by omega)
  have p0 := J.ps i hi
  refine ⟨t, J.n96, hna, J.gn, J.hha, ⟨kvs, hcd, hC.ex (Ex.refl _) (Nat.le_succ _)⟩, J.gd, J.nc, J.dm, J.him, J.ct, fun x h9 => ?_, fun x h9 => ?_, Nat.le_succ_of_le J.ml⟩
  · show d.mem x ≠ none ↔ (cv (d.cs.set i (cv d.cs i + 1)) x > 0 ∧ _)
    rw [cvs, J.mi x h9]
    by_cases e : x = i
    · rw [if_pos e, e]
      exact ⟨fun h => ⟨by omega, h.2⟩, fun h => ⟨by omega, h.2⟩⟩
    · rw [if_neg e]
  · show 0 ≤ cv (d.cs.set i (cv d.cs i + 1)) x
    rw [cvs]
    split
    · omega
    · exact J.ps x h9
def dropC (k : Sk) (d : Sd) (i : Nat) (C : Nat → List Int) : Nat → List Int := if cv d.cs i - 1 = 0 ∧ hv k.hs i = false then fset C i (blk k.f i) else C
theorem LJ.dropped {kvs : List (Key × V)} (J : LJ c G H q k d na ha cd im C m) (hi : i < 96) (h5 : 5 ≤ i) (h0 : cv d.cs i ≠ 0) (g1 : Ex G G1) (gn : G1 na = none) (gd : G1 cd = none) (t : ST c G1 B q k (dropD d i)) (hna : B na = some (.lst ((d.cs.set i (cv d.cs i - 1)).map V.int))) (hcd : B cd = some (.dK kvs)) (hC : CD G1 kvs (dropC k d i C) (m + 1)) : LJ c G1 B q k (dropD d i) na ha cd im (dropC k d i C) (m + 1) := by
  have hl := J.len.1
  have cvs : ∀ x, cv (d.cs.set i (cv d.cs i + -1)) x = if x = i then cv d.cs i + -1 else cv d.cs x := cv_set (by omega)
  have p0 := J.ps i hi
  have kz : ∀ s, (k.f s).length = 8 := J.st.dk.kz
  refine ⟨t, J.n96, hna, gn, g1 _ _ J.hha, ⟨kvs, hcd, hC⟩, gd, J.nc, J.dm, J.him.ex g1, fun x x5 h9 => ?_, fun x h9 => ?_, fun x h9 => ?_, ?_⟩
  · by_cases e : x = i
    · subst e
      have hct := J.ct x x5 h9
      have hmi := J.mi x h9
      unfold dropC cont dropD
      by_cases h1 : cv d.cs x - 1 = 0
      · simp only [if_pos h1]
        unfold setM
        simp only [if_true]
        by_cases hh : hv k.hs x = false
        · rw [if_pos ⟨h1, hh⟩]
          unfold fset
          rw [if_pos rfl]
          exact ⟨rfl, blk32 kz x⟩
        · rw [if_neg fun z => hh z.2]
          have hm : d.mem x = none := by
            cases hm : d.mem x with
            | none => rfl
            | some w => exact absurd (hmi.mp (by rw [hm]; exact fun z => by cases z)).2 hh
          refine ⟨?_, hct.2⟩
          rw [hct.1]
          unfold cont
          rw [hm]
      · simp only [if_neg h1]
        rw [if_neg fun z => h1 z.1]
        exact hct
    · have hct := J.ct x x5 h9
      have e1 : dropC k d i C x = C x := by
        unfold dropC
        split
        · unfold fset
          rw [if_neg e]
        · rfl
      have e2 : cont k (dropD d i) x = cont k d x := by
        unfold cont dropD
        split <;> rename_i hm <;> revert hm
        all_goals
          show (if cv d.cs i - 1 = 0 then setM d.mem i none else d.mem) x = _ → _
          unfold setM
          split
          · simp only [if_neg e]
            intro hm
            rw [hm]
          · intro hm
            rw [hm]
      rw [e1, e2]
      exact hct
  · show (if cv d.cs i - 1 = 0 then setM d.mem i none else d.mem) x ≠ none ↔ (cv (d.cs.set i (cv d.cs i + -1)) x > 0 ∧ _)
    rw [cvs]
    by_cases e : x = i
    · rw [if_pos e, e]
      by_cases h1 : cv d.cs i - 1 = 0
      · rw [if_pos h1]
        unfold setM
        rw [if_pos rfl]
        exact ⟨fun h => absurd rfl h, fun h => by omega⟩
      · rw [if_neg h1, J.mi i hi]
        exact ⟨fun h => ⟨by omega, h.2⟩, fun h => ⟨by omega, h.2⟩⟩
    · rw [if_neg e]
      have : (if cv d.cs i - 1 = 0 then setM d.mem i none else d.mem) x = d.mem x := by
        split
        · unfold setM
          rw [if_neg e]
        · rfl
      rw [this]
      exact J.mi x h9
  · show 0 ≤ cv (d.cs.set i (cv d.cs i + -1)) x
    rw [cvs]
    split
    · omega
    · exact J.ps x h9
  · have := memL_same (k := k) (d := d) (d' := dropD d i) (i := i) (by
      unfold dropD
      by_cases h1 : cv d.cs i - 1 = 0
      · exact .inl (if_pos h1)
      · exact .inr (if_neg h1))
    have := J.ml
    omega
theorem LJ.updX {x : Addr} {o : HO} (J : LJ c G H q k d na ha cd im C m) (gx : G x = none) (nq : x ≠ q) (nc : x ≠ k.cl) (nm : x ≠ k.m) (nd : x ≠ k.dp ∧ x ≠ k.ka ∧ x ≠ k.sa ∧ x ≠ k.wa) (n1 : x ≠ na) (n2 : x ≠ cd) : LJ c G (L2.upd H x o) q k d na ha cd im C m :=
  ⟨upd_ST J.st gx nq nc nm nd, J.n96, by rw [upd_ne n1.symm]; exact J.hna, J.gn, J.hha, let ⟨kvs, a, b⟩ := J.hcd; ⟨kvs, by rw [upd_ne n2.symm]; exact a, b⟩, J.gd, J.nc, J.dm, J.him, J.ct, J.mi, J.ps, J.ml⟩
end

end K23

set_option Elab.async false
set_option linter.all false
set_option maxRecDepth 100000
set_option maxHeartbeats 4000000
namespace K23
open PySem PySem.Spec PyProof.Rows L2 Evl LK LT LG LS LQ LX LO LN LP LH LV LZ LW StX LD
open K23D (DK Dk St)
open K23S (fr cv hv headV used In flds)
section
variable {P : Program} {w : World} {K : PySem.W.Frag} {mg : Str → Option Value} {base : Heap} {c : Cc} {CN CO CS CL Pw : Addr}
theorem ok_turn {f fT fA fB fP fE fF fD fU fM fL fN fS f1 f2 f3 f4 f5 f6 f7 f8 f9 : Addr} {fd fdT fdA fdB fdP fdE fdF fdD fdU fdM fdL fdN fdS fd1 fd2 fd3 fd4 fd5 fd6 fd7 fd8 fd9 : FuncData} (F : Fun K "law" "law" sLaw f fd)
    (FT : Fun K "_law_tape" "_law_tape" sTape fT fdT) (bT : Binds K fdT ["script"] []) (gT : mg "_law_tape" = some (.ref fT)) (FA : Fun K "_law_at" "_law_at" sAt fA fdA) (bA : Binds K fdA ["tape", "k"] []) (gA : mg "_law_at" = some (.ref fA))
    (FLb : Fun K "_law_block" "_law_block" sLb fB fdB) (GLb : FnOk P w K mg base CX0 1 fB fdB ["number", "extra"] spLb) (bLb : Binds K fdB ["number", "extra"] []) (gLb : mg "_law_block" = some (.ref fB))
    (FLpb : Fun K "_law_put_block" "_law_put_block" sLpb fP fdP) (GLpb : FnOk P w K mg base CX0 4 fP fdP ["disk", "number", "words"] (spLpb c.D Pw)) (bLpb : Binds K fdP ["disk", "number", "words"] []) (gLpb : mg "_law_put_block" = some (.ref fP))
    (FEn : Fun K "_law_end" "_law_end" sEnd fE fdE) (GEn : FnOk P w K mg base CX0 9 fE fdE ["store", "numbers", "held", "contents", "image"] (spLend c Pw)) (bEn : Binds K fdE ["store", "numbers", "held", "contents", "image"] []) (gEn : mg "_law_end" = some (.ref fE))
    (FLfr : Fun K "_law_free" "_law_free" sLfr fF fdF) (GLfr : FnOk P w K mg base CX0 1 fF fdF ["numbers", "held"] (spLfr K)) (bLfr : Binds K fdF ["numbers", "held"] []) (gLfr : mg "_law_free" = some (.ref fF))
    (FDo : Fun K "_law_do" "_law_do" sDo fD fdD) (GDo : FnOk P w K mg base CX0 8 fD fdD ["store", "act", "pointer", "words"] (spLdo c Pw)) (bDo : Binds K fdD ["store", "act", "pointer", "words"] []) (gDo : mg "_law_do" = some (.ref fD))
    (FDu : Fun K "_law_due" "_law_due" sDue fU fdU) (GDu : FnOk P w K mg base CX0 1 fU fdU ["numbers", "held", "act", "number"] spLdue) (bDu : Binds K fdU ["numbers", "held", "act", "number"] []) (gDu : mg "_law_due" = some (.ref fU))
    (FLmk : Fun K "_law_make" "_law_make" sLmk fM fdM) (GLmk : FnOk P w K mg base CX0 9 fM fdM ["store", "numbers", "held", "contents", "words", "valid", "generation"] (spLmk c Pw)) (bLmk : Binds K fdM ["store", "numbers", "held", "contents", "words", "valid", "generation"] []) (gLmk : mg "_law_make" = some (.ref fM))
    (FLib : Fun K "_law_is_block" "_law_is_block" sLib fL fdL) (GLib : FnOk P w K mg base CX0 1 fL fdL ["told", "due"] spLib) (bLib : Binds K fdL ["told", "due"] []) (gLib : mg "_law_is_block" = some (.ref fL))
    (FLo : Fun K "_law_old" "_law_old" sLold fN fdN) (GLo : FnOk P w K mg base CX0 1 fN fdN ["image", "number"] spLold) (bLo : Binds K fdN ["image", "number"] []) (gLo : mg "_law_old" = some (.ref fN)) (FSa : Fun K "_law_same" "_law_same" sSame fS fdS) (GSa : FnOk P w K mg base CX0 1 fS fdS ["told", "due"] spSame) (bSa : Binds K fdS ["told", "due"] []) (gSa : mg "_law_same" = some (.ref fS))
    (MD : Mk K c.D f1) (Gdinit : FnOk P w K mg base (L2.CX P w) 3 f1 fd1 ["self", "blocks"] (K23D.spInit c.D)) (bdinit : Binds K fd1 ["self", "blocks"] []) (MH : Mk K c.H f2) (Ghinit : FnOk P w K mg base CX0 1 f2 fd2 ["self", "generation", "table", "blocks"] (spHin c)) (bhinit : Binds K fd2 ["self", "generation", "table", "blocks"] []) (MS : Mk K c.S f3) (Gsinit : FnOk P w K mg base CX0 1 f3 fd3 ["self", "uses"] (K23S.spInit K c.S)) (bsinit : Binds K fd3 ["self", "uses"] []) (MT : Mk K c.T f4) (Gtinit : FnOk P w K mg base CX0 1 f4 fd4 ["self", "disk", "head", "space"] (spTin c)) (btinit : Binds K fd4 ["self", "disk", "head", "space"] [])
    (Gflush : FnOk P w K mg base (L2.CX P w) 2 f5 fd5 ["self"] (K23D.spFlush c.D CO)) (bflush : Binds K fd5 ["self"] []) (mflush : Meth K c.D "flush" f5) (Gimage : FnOk P w K mg base CX0 1 f6 fd6 ["self"] (K23D.spImgs c.D fun d => K23D.due d.kept d.ws)) (bimage : Binds K fd6 ["self"] []) (mimage : Meth K c.D "image" f6)
    (Ggeneration : FnOk P w K mg base CX0 1 f7 fd7 ["self"] (spGen c)) (bgeneration : Binds K fd7 ["self"] []) (mgeneration : Meth K c.T "generation" f7) (Guse_reserve : FnOk P w K mg base CX0 1 f8 fd8 ["self", "reserve"] (spUr c)) (buse_reserve : Binds K fd8 ["self", "reserve"] []) (muse_reserve : Meth K c.T "use_reserve" f8) (Gnew_blocks : FnOk P w K mg base CX0 1 f9 fd9 ["self"] (spNb c)) (bnew_blocks : Binds K fd9 ["self"] []) (mnew_blocks : Meth K c.T "new_blocks" f9)
    (T : Txt mg) (TT : TxT mg K c.T) (TD : K23D.Txt mg K c.D) (TS : K23S.Txt mg K c.S) (TH : TxH mg K c.H) {cdv : Value} {A : Around} {outer : List Env} {s : Shared} {H0 : Hp} {E : XK} (hr : Room 9 (A.deeper (envOfC "law" (defScope sLaw) s.heap.objs.size f cdv))) : ∃ t, PSs (cxOf CX0 P w K mg base ["script", "tape", "generation", "disk", "contents", "numbers", "number", "image", "held", "store", "recent", "k", "act", "pick", "free", "words", "valid", "due", "told", "many"] "law" (defScope sLaw) f cdv A outer s H0 E).nox loopS t ∧
    ∀ (D : Ends) (G5 : Hp) (a ta p cd na im ha q : Addr) (g : Int) (k : Sk) (ts : List Int) (m i : Nat) (σ : L2.St) (B : Hp), G5 ta = some (.lst (ts.map V.int)) → Good ts → Tab G5 Pw → g = k.g + 1 → m ≤ 49 → i < 50 → TI c G5 a ta p cd na im ha q g k m σ B → t { D with nx := TI c G5 a ta p cd na im ha q g k (m + 1), ct := TI c G5 a ta p cd na im ha q g k (m + 1) } (σ.set 11 (some (.int (i : Int)))) B := by
  have GT : FnOk P w K mg base CX0 1 fT fdT ["script"] (spTape K) := ok_tape FT T
  have GA : FnOk P w K mg base CX0 1 fA fdA ["tape", "k"] (spCel K) := ok_at FA T
  refine ⟨_, (pss_cons (ps_set (i := 12) scLaw.nd rfl (Or.inl rfl) (pe_ix ix_list (pe_lst (pa_cons pe_str (pa_cons pe_str (pa_cons pe_str (pa_cons pe_str (pa_cons pe_str (pa_cons pe_str (pa_cons pe_str (pa_cons pe_str (pa_cons pe_str (pa_cons pe_str (pa_cons pe_str pa_nil)))))))))))) (pe_op op_mod (pe_call GA (hr.mono (by decide)) (by rfl) gA FA.kp bA .nil pass0 (pa_cons (pv 1) (pa_cons (pe_op op_mul pe_int (pv 11)) pa_nil))) pe_int) (fun _ _ => rfl)))
      (pss_cons (ps_set (i := 13) scLaw.nd rfl (Or.inl rfl) (pe_call GA (hr.mono (by decide)) (by rfl) gA FA.kp bA .nil pass0 (pa_cons (pv 1) (pa_cons (pe_op op_add (pe_op op_mul pe_int (pv 11)) pe_int) pa_nil))))
      (pss_cons (ps_set (i := 14) scLaw.nd rfl (Or.inl rfl) (pe_callB call_len_seq (by rfl) T.len (by decide +kernel) (pa_cons (pe_call GLfr (hr.mono (by decide)) (by rfl) gLfr FLfr.kp bLfr .nil pass0 (pa_cons (pv 5) (pa_cons (pv 8) pa_nil))) pa_nil)))
      (pss_cons (ps_expr (pe_meth (pv 9) TT.cl muse_reserve Guse_reserve (hr.mono (by decide)) buse_reserve .nil pass0 (pa_cons (pe_ix ix_list (pe_lst (pa_cons pe_int (pa_cons pe_int (pa_cons pe_int (pa_cons pe_int (pa_cons (pv 14) (pa_cons (pe_callB (call_max2 rfl) (by rfl) T.max (by decide +kernel) (pa_cons pe_int (pa_cons (pe_op op_sub (pv 14) pe_int) pa_nil))) pa_nil))))))) (pe_op op_mod (pv 13) pe_int) (fun _ _ => rfl)) pa_nil)))
      (pss_cons (ps_set (i := 6) scLaw.nd rfl (Or.inl rfl) (pe_ix ix_list (pv 10) (pe_op op_mod (pe_op op_fdiv (pv 13) pe_int) (pe_callB call_len_seq (by rfl) T.len (by decide +kernel) (pa_cons (pv 10) pa_nil))) (fun _ _ => rfl)))
      (pss_cons (ps_set (i := 15) scLaw.nd rfl (Or.inl rfl) (pe_call GLb (hr.mono (by decide)) (by rfl) gLb FLb.kp bLb .nil pass0 (pa_cons (pv 11) (pa_cons (pv 13) pa_nil))))
      (pss_cons (ps_set (i := 16) scLaw.nd rfl (Or.inl rfl) (pe_cmpR op_ne (pe_op op_mod (pv 13) pe_int) pe_int (nomark _)))
      (pss_cut (ps_if (pt_not (pt_val (pv 16))) (pss_one (ps_set (i := 15) scLaw.nd rfl (Or.inl rfl) (pe_ix ix_list (pe_lst (pa_cons (pe_slice sl_list (pv 15) (po_some pe_int) po_none) (pa_cons (pe_op op_cat (pv 15) (pe_lst (pa_cons pe_int pa_nil))) (pa_cons (pe_op op_cat (pe_slice sl_list (pv 15) po_none (po_some pe_int)) (pe_lst (pa_cons (pe_un un_neg pe_int) pa_nil))) (pa_cons (pe_callTy call_tuple_of (by rfl) T.tuple (by decide +kernel) (pa_cons (pv 15) pa_nil)) (pa_cons (pe_op op_cat (pe_slice sl_list (pv 15) po_none (po_some pe_int)) (pe_lst (pa_cons pe_bl pa_nil))) pa_nil)))))) (pe_op op_mod (pe_op op_fdiv (pv 13) pe_int) pe_int) (fun _ _ => rfl)))) pss_nil)
      (pss_cons (ps_if (pt_cmpR op_eq (pv 12) pe_str (nomark _)) (pss_cons (ps_if (pt_not (pt_val (pe_call GLmk (hr.mono (by decide)) (by rfl) gLmk FLmk.kp bLmk .nil pass0 (pa_cons (pv 9) (pa_cons (pv 5) (pa_cons (pv 8) (pa_cons (pv 4) (pa_cons (pv 15) (pa_cons (pv 16) (pa_cons (pv 2) pa_nil)))))))))) (pss_one (ps_ret pe_bl)) pss_nil)
      (pss_cons (ps_set (i := 10) scLaw.nd rfl (Or.inl rfl) (pe_op op_cat (pv 10) (pe_slice sl_list (pe_meth0 (pv 9) TT.cl mnew_blocks Gnew_blocks (hr.mono (by decide)) bnew_blocks .nil pass0) (po_some (pe_un un_neg pe_int)) po_none)))
      (pss_one ps_continue))) pss_nil)
      (pss_cons (ps_set (i := 17) scLaw.nd rfl (Or.inl rfl) (pe_call GDu (hr.mono (by decide)) (by rfl) gDu FDu.kp bDu .nil pass0 (pa_cons (pv 5) (pa_cons (pv 8) (pa_cons (pv 12) (pa_cons (pv 6) pa_nil))))))
      (pss_cut (ps_if (PW.pt (pw_and (pt_cmpR op_eq (pv 12) pe_str (nomark _)) (pw_and1 (pt_not (pt_val (pv 16)))))) (pss_one (ps_set (i := 17) scLaw.nd rfl (Or.inl rfl) (pe_lst (pa_cons pe_str (pa_cons pe_str pa_nil))))) pss_nil)
      (pss_cut (ps_set (i := 18) scLaw.nd rfl (Or.inl rfl) (pe_call GDo (hr.mono (by decide)) (by rfl) gDo FDo.kp bDo .nil pass0 (pa_cons (pv 9) (pa_cons (pv 12) (pa_cons (pe_tup (pa_cons (pv 6) (pa_cons (pv 2) pa_nil))) (pa_cons (pv 15) pa_nil))))))
      (pss_cons (ps_if (PW.pt (pw_and (pt_cmpR op_eq (pv 12) pe_str (nomark _)) (pw_and1 (pt_cmpR op_isN (pv 17) pe_non (nomark _))))) (pss_cons (ps_if (pt_not (pt_val (pe_call GLib (hr.mono (by decide)) (by rfl) gLib FLib.kp bLib .nil pass0 (pa_cons (pv 18) (pa_cons (pe_dget (hu_of hr) (pv 4) (pv 6) (fun _ _ => rfl)) pa_nil))))) (pss_one (ps_ret pe_bl)) pss_nil)
      (pss_cons (ps_asg (pe_op op_add (pe_ix ix_list (pv 18) pe_int (fun _ _ => rfl)) pe_int) (pg_sub (pv 18) pe_int set_list))
      (pss_one ps_continue))) pss_nil)
      (pss_cons (ps_if (pt_not (pt_val (pe_call GSa (hr.mono (by decide)) (by rfl) gSa FSa.kp bSa .nil pass0 (pa_cons (pv 18) (pa_cons (pv 17) pa_nil))))) (pss_one (ps_ret pe_bl)) pss_nil)
      (pss_cons (ps_if (PW.pt (pw_and (pt_cmpR op_eq (pv 12) pe_str (nomark _)) (pw_and1 (pt_cmpR op_isN (pv 17) pe_non (nomark _))))) (pss_one (ps_dput (hu_of hr) (pv 4) (pv 6) (pe_callTy call_list_of (by rfl) T.list (by decide +kernel) (pa_cons (pv 15) pa_nil)) (by rfl))) pss_nil)
      (pss_cons (ps_if (PW.pt (pw_and (pt_cmpR op_eq (pv 12) pe_str (nomark _)) (pw_and1 (pt_cmpR op_isN (pv 17) pe_non (nomark _))))) (pss_one (ps_asg (pe_op op_add (pe_ix ix_list (pv 5) (pv 6) (fun _ _ => rfl)) pe_int) (pg_sub (pv 5) (pv 6) set_list))) pss_nil)
      (pss_one (ps_if (PW.pt (pw_and (pt_cmpR op_eq (pv 12) pe_str (nomark _)) (pw_and1 (pt_cmpR (op_neD hr.units) (pv 17) (pe_lst (pa_cons pe_str (pa_cons pe_str pa_nil))) (nomark _))))) (pss_cons (ps_if (PW.pt (pw_and (pt_cmpR (op_eqD hr.units) (pv 17) pe_int (nomark _)) (pw_and1 (pt_not (pt_val (pe_ix ix_list (pv 8) (pv 6) (fun _ _ => rfl))))))) (pss_one (ps_dput (hu_of hr) (pv 4) (pv 6) (pe_call GLo (hr.mono (by decide)) (by rfl) gLo FLo.kp bLo .nil pass0 (pa_cons (pv 7) (pa_cons (pv 6) pa_nil))) (by rfl))) pss_nil)
      (pss_one (ps_asg (pv 17) (pg_sub (pv 5) (pv 6) set_list)))) pss_nil)))))))))))))))))), fun D G5 a ta p cd na im ha q g k ts m i σ B hta hg hT hgk hm hi h => ?_⟩
  obtain ⟨G, d, C, ra, rs, y6, y11, y12, y13, y14, y15, y16, y17, y18, rfl, J, eG, hra, hrs9, hrsm⟩ := h
  have hl := J.len
  have cc : ∀ {H' : Hp} {z : Int} {σ : L2.St} {tk : TE} (j : Nat), Ex B H' → z = (j : Int) → σ[1]? = some (some (.ref ta)) → Ev tk σ H' (.int z) → Ev (tCall (spCel K) [] E0 (tCons (tVar 1) (tCons tk tNil))) σ H' (.int (cellv ts j)) :=
    fun j e ez h0 hk => ev_call (ea_cons (ev_var h0) (ea_cons hk ea_nil)) (sv_cell (sq_of (e _ _ (J.st.dk.g _ _ (eG _ _ hta)))) ez)
  obtain ⟨act, hat, hact⟩ := pick11 (Int.emod_nonneg (cellv ts (2 * i)) (show (11 : Int) ≠ 0 by decide)) (Int.emod_lt_of_pos _ (show (0 : Int) < 11 by decide))
  refine q_asg (v := .str act) (ev_opL1 (xs := acts11.map V.str) (el_lst (ea_cons ev_c (ea_cons ev_c (ea_cons ev_c (ea_cons ev_c (ea_cons ev_c (ea_cons ev_c (ea_cons ev_c (ea_cons ev_c (ea_cons ev_c (ea_cons ev_c (ea_cons ev_c ea_nil))))))))))) (by decide)) (fun B b => ev_op (cc (2 * i) b (by push_cast; rfl) rfl (ev_op ev_c (ev_var rfl) (rv_I (.inl ⟨by decide, by decide⟩)))) ev_c (rv_I (by show (0 : Int) < 11; decide))) (fun _ _ hp _ => rv_ixL (sq_of hp) hat)) fun B1 b1 => ?_
  obtain ⟨pk, hpk⟩ : ∃ pk : Nat, cellv ts (2 * i + 1) = (pk : Int) := ⟨_, (Int.toNat_of_nonneg (hg.cell _).1).symm⟩
  have hpk1 : pk < 1000 := by have := (hg.cell (2 * i + 1)).2; omega
  refine q_asg (v := .int (pk : Int)) (ev_is (cc (2 * i + 1) b1 (by push_cast; rfl) rfl (ev_op (ev_op ev_c (ev_var rfl) (rv_I (.inl ⟨by decide, by decide⟩))) ev_c rv_I0)) (by rw [hpk])) fun B2 b2 => ?_
  refine q_asg (v := .int (fre k d)) (ev_is (ev_lenN (el_call (vs := [.ref na, .ref ha]) (ea_cons (ev_var rfl) (ea_cons (ev_var rfl) ea_nil)) (fun H1 e1 Q q E => ⟨na, ha, d.cs, k.hs, rfl, (J.ex ((b1.trans b2).trans e1)).hna, (J.ex ((b1.trans b2).trans e1)).st.dk.g _ _ J.hha, hl.1, hl.2, q⟩))) (by rw [List.length_map]; rfl)) fun B3 b3 => ?_
  have b13 := (b1.trans b2).trans b3
  obtain ⟨dx3, ho3⟩ := (J.ex b13).st.o
  obtain ⟨r, hrat, hr_0⟩ := pick6 (z := (pk : Int) % 6) (f := fre k d) (g := if fre k d - 1 > 0 then fre k d - 1 else 0) (by unfold fre; omega) (by split <;> omega) (by omega) (by omega)
  refine q_m (ev_var rfl) ho3 (tno (.inr (.inr (.inr (.inr (.inr (.inr (.inr (.inr (.inr (.inr (.inr (.inr rfl))))))))))))) (ea_cons (x := .int r) (ev_opL1 (xs := [V.int 0, .int 0, .int 40, .int 60, .int (fre k d), .int (if fre k d - 1 > 0 then fre k d - 1 else 0)]) (el_lst (ea_cons ev_c (ea_cons ev_c (ea_cons ev_c (ea_cons ev_c (ea_cons (ev_var rfl) (ea_cons (ev_max2 ev_c (ev_op (ev_var rfl) ev_c rv_I0)) ea_nil)))))) (Nat.le_of_ble_eq_true rfl)) (fun B b => ev_op (ev_var rfl) ev_c (rv_I (by show (0 : Int) < 6; decide))) (fun _ _ hp _ => rv_ixL (sq_of hp) hrat)) ea_nil) fun B4 b4 => ⟨G, q, k, d, r, rfl, J.st.ex (b13.trans b4), fun B5 F5 T5 => ?_⟩
  obtain ⟨d1, J5, hr1⟩ : ∃ d1, LJ c G B5 q k d1 na ha cd im C m ∧ 0 ≤ d1.r := ⟨_, (J.ex (b13.trans b4)).setR F5 T5, hr_0⟩
  have hl1 := J5.len
  have hra5 := J5.st.dk.g _ _ hra
  obtain ⟨z, hz⟩ : ∃ z : Int, atI (rs.map V.int) ((pk : Int) / 6 % (rs.length : Int)) = some (.int z) := by
    have hlt : pk / 6 % rs.length < rs.length := Nat.mod_lt _ (by omega)
    exact ⟨rs[pk / 6 % rs.length], at_of (show (pk : Int) / 6 % (rs.length : Int) = ((pk / 6 % rs.length : Nat) : Int) by push_cast; rfl) (by rw [List.getElem?_map, List.getElem?_eq_getElem hlt]; rfl)⟩
  refine q_asg (v := .int z) (ev_op (ev_var rfl) (ev_op (ev_op (ev_var rfl) ev_c (rv_I ⟨by decide, by decide⟩)) (ev_is (w := .int (rs.length : Int)) (ev_lenL (ev_var rfl) hra5) (by rw [List.length_map])) (rv_I (by show (0 : Int) < (rs.length : Int); omega))) (rv_ixL (sq_of hra5) hz)) fun B6 b6 => ?_
  refine q_run (vs := [.int (i : Int), .int (pk : Int)]) (ea_cons (ev_var rfl) (ea_cons (ev_var rfl) ea_nil)) fun B7 b7 => ⟨_, _, rfl, by omega, by omega, by omega, by omega, fun u0 B8 ws0 hu0 b8 hux0 h320 hnn0 => ?_⟩
  refine q_asg (ev_op (ev_op (ev_var rfl) ev_c (rv_I (by show (0 : Int) < 6; decide))) ev_c (rv_ne rfl)) fun B9 b9 => ?_
  have b59 := ((b6.trans b7).trans b8).trans b9
  have gu0 : G u0 = none := fresh_back (J5.st.dk.g.trans (b6.trans b7)) hu0
  generalize (!decide (V.int ((pk : Int) % 6) = V.int 1)) = vd
  refine q_cut (M := fun σ' B' => ∃ u, σ' = [some (.ref a), some (.ref ta), some (.int g), some (.ref p), some (.ref cd), some (.ref na), some (.int z), some (.ref im), some (.ref ha), some (.ref q), some (.ref ra), some (.int (i : Int)), some (.str act), some (.int (pk : Int)), some (.int (fre k d)), some (.ref u), some (.bl vd), y17, y18, none] ∧ Ex B5 B' ∧ G u = none ∧ WordsR B' k u vd) ?_ ?_
  · cases vd with
    | true => exact s_when (b := false) (et_is (et_not (et_B (ev_var rfl))) rfl) (fun h => by cases h) (fun _ X x => ⟨u0, rfl, b59.trans x, gu0, ws0, (b9.trans x) _ _ hux0, h320, hnn0⟩)
    | false =>
      refine s_when (b := true) (et_is (et_not (et_B (ev_var rfl))) rfl) (fun _ X x => ?_) (fun h => by cases h)
      have hX := (b9.trans x) _ _ hux0
      have h32' : (ws0.map V.int).length = 32 := by rw [List.length_map, h320]
      have e5 : ∀ {Y : Hp}, Ex X Y → Ex B5 Y := fun e => (b59.trans x).trans e
      have hi5 : (0 : Int) ≤ (pk : Int) / 6 % 5 ∧ (pk : Int) / 6 % 5 < 5 := ⟨by omega, by omega⟩
      refine s_pick5 (z := (pk : Int) / 6 % 5) (x1 := (ws0.map V.int).drop 1) (x2 := ws0.map V.int ++ [.int 0]) (x3 := (ws0.map V.int).take 31 ++ [.int (-1)]) (x4 := ws0.map V.int) (x5 := (ws0.map V.int).take 31 ++ [.bl true])
        (el_is (el_sl (ev_var rfl) (eo_some ev_c) eo_none (sq_of hX)) (cut_hi (ws0.map V.int) 1)) (el_cat (ev_var rfl) hX (el_lst (ea_cons ev_c ea_nil) (by decide)) (by rw [h32']; decide))
        (el_catL (el_is (el_sl (ev_var rfl) eo_none (eo_some ev_c) (sq_of hX)) (cut_lo (ws0.map V.int) 31)) (el_lst (ea_cons (ev_un ev_c ru_neg) ea_nil) (by decide)) (by rw [List.length_take, h32']; decide)) (eu_tupV (ev_var rfl) hX)
        (el_catL (el_is (el_sl (ev_var rfl) eo_none (eo_some ev_c) (sq_of hX)) (cut_lo (ws0.map V.int) 31)) (el_lst (ea_cons ev_c ea_nil) (by decide)) (by rw [List.length_take, h32']; decide))
        (ev_op (ev_op (ev_var rfl) ev_c (rv_I ⟨by decide, by decide⟩)) ev_c (rv_I (by show (0 : Int) < 5; decide))) hi5.1 hi5.2 fun u Y y ny hy => ?_
      have hcl := (J5.ex (b59.trans x)).st.c
      have hclY := (J5.ex (e5 y)).st.c
      have ncl : ∀ {xs : List V}, Y u = some (.lst xs) → u ≠ k.cl := fun _ z => by
        rw [z, hcl] at ny
        cases ny
      have ki : ∀ v ∈ ws0.map V.int, ∃ n, K23D.Kd Y v n := K23D.kd_ints ws0
      refine ⟨u, rfl, e5 y, fresh_back (J5.st.dk.g.trans (b59.trans x)) ny, ?_⟩
      rcases hy with hy | hy | hy | hy | hy
      · exact .inl ⟨_, hy, fun v hv => ki v (List.mem_of_mem_drop hv), not_okB_len (by rw [List.length_drop, h32']; decide), ncl hy⟩
      · exact .inl ⟨_, hy, fun v hv => (List.mem_append.mp hv).elim (ki v) (fun h => ⟨"int", by rw [List.mem_singleton.mp h]; exact .int 0⟩), not_okB_len (by rw [List.length_append, h32']; decide), ncl hy⟩
      · exact .inl ⟨_, hy, fun v hv => (List.mem_append.mp hv).elim (fun h => ki v (List.mem_of_mem_take h)) (fun h => ⟨"int", by rw [List.mem_singleton.mp h]; exact .int (-1)⟩), fun ⟨ws, e, _, h0⟩ => (by
          have hm : V.int (-1) ∈ ws.map V.int := by rw [← e]; exact List.mem_append_right _ (List.mem_singleton.mpr rfl)
          obtain ⟨z', hz', ez⟩ := List.mem_map.mp hm
          have := h0 z' hz'
          cases ez
          omega), ncl hy⟩
      · exact .inr ⟨_, hy⟩
      · exact .inl ⟨_, hy, fun v hv => (List.mem_append.mp hv).elim (fun h => ki v (List.mem_of_mem_take h)) (fun h => ⟨"bool", by rw [List.mem_singleton.mp h]; exact .bl true⟩), fun ⟨ws, e, _, h0⟩ => (by
          have hm : V.bl true ∈ ws.map V.int := by rw [← e]; exact List.mem_append_right _ (List.mem_singleton.mpr rfl)
          obtain ⟨z', hz', ez⟩ := List.mem_map.mp hm
          cases ez), ncl hy⟩
  rintro σ' B10 ⟨u, rfl, e10, gu, hW⟩
  have J10 := J5.ex e10
  have hT10 : ∀ {Y : Hp}, Ex B10 Y → Tab Y Pw := fun e => (hT.mono eG).mono ((J10.ex e).st.dk.g)
  by_cases hmk : act = "make"
  · subst hmk
    refine q_when (b := true) (et_is (et_test (ev_op (ev_var rfl) ev_c (rv_eq rfl))) (by decide +kernel)) (fun _ B11 b11 => ?_) (fun h => by cases h)
    refine q_notC (vs := [.ref q, .ref na, .ref ha, .ref cd, .ref u, .bl vd, .int g]) (ea_cons (ev_var rfl) (ea_cons (ev_var rfl) (ea_cons (ev_var rfl) (ea_cons (ev_var rfl) (ea_cons (ev_var rfl) (ea_cons (ev_var rfl) (ea_cons (ev_var rfl) ea_nil))))))) fun B12 b12 => ⟨G, q, k, d1, na, ha, cd, im, C, m, u, vd, g, rfl, J10.ex (b11.trans b12), by omega, hgk, hT10 (b11.trans b12), hr1, gu, hW.ex (b11.trans b12), fun G' B13 d' C' S' J' => not_fin ?_⟩
    obtain ⟨dx', ho'⟩ := J'.st.o
    have hra13 := J'.st.dk.g _ _ (S'.g _ _ hra)
    obtain ⟨ms, hms, hml⟩ := cut_last ((memL k d').map fun x : Nat => (x : Int))
    have h64 : (memL k d').length < 64 := by have := J'.ml; omega
    refine q_asgL (el_is (ys := (rs ++ ms).map V.int) (el_cat (ys := cutV (((memL k d').map fun x : Nat => (x : Int)).map V.int) (some (-1)) none) (ev_var rfl) hra13 (el_slN (el_meth0' (ev_var rfl) ho' (tno (.inr (.inr (.inr (.inr (.inr (.inr (.inr (.inr (.inr (.inr (.inr (.inl rfl))))))))))))) (fun X x Q' q' E' => ⟨G', q, k, d', rfl, J'.st.ex x, h64, by rw [List.map_map] at q'; exact q'⟩)) (fun _ _ => eo_some (ev_un ev_c ru_neg)) (fun _ _ => eo_none)) (by rw [hms, List.length_map, List.length_map]; omega)) (by rw [hms, List.map_append])) fun ra' B14 hra' b14 hrax => ?_
    obtain ⟨G'', S'', J'', new⟩ := J'.join b14
    exact ⟨G'', d', C', ra', rs ++ ms, _, _, _, _, _, _, _, _, _, rfl, J'', (eG.trans S'.g).trans S''.g, new _ _ hra' hrax, by rw [List.length_append]; omega, by rw [List.length_append]; omega⟩
  have hact2 : act ∈ acts6 := hact.resolve_left hmk
  refine q_when (b := false) (et_is (et_test (ev_op (ev_var rfl) ev_c (rv_eq rfl))) (decide_eq_false fun e => hmk (V.str.inj e))) (fun h => by cases h) (fun _ B11 b11 => ?_)
  obtain ⟨o, hD⟩ := due_ex d1.cs k.hs hact2 z
  refine q_run (vs := [.ref na, .ref ha, .str act, .int z]) (ea_cons (ev_var rfl) (ea_cons (ev_var rfl) (ea_cons (ev_var rfl) (ea_cons (ev_var rfl) ea_nil)))) fun B12 b12 => ⟨na, ha, d1.cs, k.hs, act, z, o, rfl, (J10.ex (b11.trans b12)).hna, (J10.ex (b11.trans b12)).st.dk.g _ _ J10.hha, hl1.1, hl1.2, hD, fun B13 v b13 hv => ?_⟩
  have x13 := (b11.trans b12).trans b13
  obtain ⟨o2, ho2⟩ : ∃ o2, o2 = (if act = "write" ∧ vd = false then Out.ref false else o) := ⟨_, rfl⟩
  refine q_cut (M := fun σ' B' => ∃ v2, σ' = [some (.ref a), some (.ref ta), some (.int g), some (.ref p), some (.ref cd), some (.ref na), some (.int z), some (.ref im), some (.ref ha), some (.ref q), some (.ref ra), some (.int (i : Int)), some (.str act), some (.int (pk : Int)), some (.int (fre k d)), some (.ref u), some (.bl vd), some v2, y18, none] ∧ Ex B10 B' ∧ IsOut B' v2 o2) ?_ ?_
  · by_cases hw : act = "write" ∧ vd = false
    · refine s_when (b := true) (et_is (et_and (et_test (ev_op (ev_var rfl) ev_c (rv_eq rfl))) (fun _ => et_not (et_B (ev_var rfl)))) (by rw [hw.1, hw.2]; decide +kernel)) (fun _ X x => ?_) (fun h => by cases h)
      exact s_asgL (el_lst (ea_cons ev_c (ea_cons ev_c ea_nil)) (by decide)) fun l X2 hl x2 hx2 => ⟨_, rfl, (x13.trans x).trans x2, by rw [ho2, if_pos hw]; exact ⟨l, rfl, hx2⟩⟩
    · exact s_when (b := false) (et_is (et_and (et_test (ev_op (ev_var rfl) ev_c (rv_eq rfl))) (fun _ => et_not (et_B (ev_var rfl)))) (by
        cases vd with
        | true => simp
        | false => rw [decide_eq_false fun e => hw ⟨V.str.inj e, rfl⟩]; rfl)) (fun h => by cases h) (fun _ X x => ⟨v, rfl, x13.trans x, by rw [ho2, if_neg hw]; exact hv.ex x⟩)
  rintro σ' B14 ⟨v2, rfl, x14, hv2⟩
  have hkn := J5.n96
  refine q_cut (M := fun σ' B' => ∃ v3, σ' = [some (.ref a), some (.ref ta), some (.int g), some (.ref p), some (.ref cd), some (.ref na), some (.int z), some (.ref im), some (.ref ha), some (.ref q), some (.ref ra), some (.int (i : Int)), some (.str act), some (.int (pk : Int)), some (.int (fre k d)), some (.ref u), some (.bl vd), some v2, some v3, none] ∧ Aft c G q k d1 na ha cd im C m u act z vd o2 v2 v3 B') ?_ ?_
  · refine s_callU3 (v1 := .ref q) (v2 := .str act) (v4 := .ref u) (xs := [.int z, .int g]) (ev_var rfl) (ev_var rfl) (eu_tup (ea_cons (ev_var rfl) (ea_cons (ev_var rfl) ea_nil)) (Nat.le_of_ble_eq_true rfl)) (ev_var rfl) fun t B15 ht b15 htx => ?_
    have x15 := x14.trans b15
    have J15 := J10.ex x15
    have hW15 := hW.ex x15
    have hT15 := hT10 x15
    have goR : o2 = .ref false → DoR c G B15 q k d1 act (.ref t) (.ref u) (RefQ B15 false) → spLdo c Pw [.ref q, .str act, .ref t, .ref u] B15 (fun v H2 => ∃ v3, List.set [some (.ref a), some (.ref ta), some (.int g), some (.ref p), some (.ref cd), some (.ref na), some (.int z), some (.ref im), some (.ref ha), some (.ref q), some (.ref ra), some (.int (i : Int)), some (.str act), some (.int (pk : Int)), some (.int (fre k d)), some (.ref u), some (.bl vd), some v2, y18, none] 18 (some v) = [some (.ref a), some (.ref ta), some (.int g), some (.ref p), some (.ref cd), some (.ref na), some (.int z), some (.ref im), some (.ref ha), some (.ref q), some (.ref ra), some (.int (i : Int)), some (.str act), some (.int (pk : Int)), some (.int (fre k d)), some (.ref u), some (.bl vd), some v2, some v3, none] ∧ Aft c G q k d1 na ha cd im C m u act z vd o2 v2 v3 H2) E0 := fun ho hR =>
      ⟨G, q, k, d1, act, .ref t, .ref u, _, rfl, J15.st, hT15, hr1, hR, fun t3 B16 ht3 b16 h3 => ⟨_, rfl, .same (J15.ex b16) (hv2.ex (b15.trans b16)) (by rw [ho]; exact ⟨t3, rfl, h3⟩) (by rw [ho]; trivial) (fun _ => by rw [ho]; exact fun z => by cases z) (fun _ => ho)⟩⟩
    have wrNo : (¬ (0 ≤ z ∧ z < k.n ∧ newB k d1 z.toNat = true) ∨ vd = false) → DoR c G B15 q k d1 "write" (.ref t) (.ref u) (RefQ B15 false) := fun hno => by
      cases vd with
      | true =>
        obtain ⟨ws, hu, _, _⟩ := hW15
        exact .write_no htx hu (K23D.kd_ints ws) fun h => (hno.resolve_right fun z => by cases z) ⟨h.1, h.2.1, h.2.2.1⟩
      | false =>
        rcases hW15 with ⟨xs, h1, h2, h3, _⟩ | ⟨xs, h1⟩
        · exact .write_no htx h1 h2 fun h => h3 h.2.2.2
        · exact .write_tup htx h1
    have goV : ∀ {w : V}, o2 = .val w → good o2 → w ≠ .non → act ≠ "drop" → DoR c G B15 q k d1 act (.ref t) (.ref u) (fun Q => RetV w B15 Q) → spLdo c Pw [.ref q, .str act, .ref t, .ref u] B15 (fun v H2 => ∃ v3, List.set [some (.ref a), some (.ref ta), some (.int g), some (.ref p), some (.ref cd), some (.ref na), some (.int z), some (.ref im), some (.ref ha), some (.ref q), some (.ref ra), some (.int (i : Int)), some (.str act), some (.int (pk : Int)), some (.int (fre k d)), some (.ref u), some (.bl vd), some v2, y18, none] 18 (some v) = [some (.ref a), some (.ref ta), some (.int g), some (.ref p), some (.ref cd), some (.ref na), some (.int z), some (.ref im), some (.ref ha), some (.ref q), some (.ref ra), some (.int (i : Int)), some (.str act), some (.int (pk : Int)), some (.int (fre k d)), some (.ref u), some (.bl vd), some v2, some v3, none] ∧ Aft c G q k d1 na ha cd im C m u act z vd o2 v2 v3 H2) E0 := fun {w} ho hgo hw hd hR =>
      ⟨G, q, k, d1, act, .ref t, .ref u, _, rfl, J15.st, hT15, hr1, hR, fun B16 b16 => ⟨w, rfl, .same (J15.ex b16) (hv2.ex (b15.trans b16)) (by rw [ho]; rfl) hgo (fun _ => by rw [ho]; exact fun z => hw (Out.val.inj z)) (fun e => absurd e hd)⟩⟩
    have kvs15 := fun {H1 : Hp} (F1 : Fm B15 H1 q k) => J15.keep F1
    have hnw : ∀ j : Nat, nw d1.cs k.hs j = newB k d1 j := nw_newB k d1
    cases hD with
    | out h =>
      have ho : o2 = .ref false := by rw [ho2]; split <;> rfl
      have hz' : ¬ (0 ≤ z ∧ z < k.n) := by omega
      refine goR ho ?_
      unfold acts6 at hact2
      simp only [List.mem_cons, List.not_mem_nil, or_false] at hact2
      rcases hact2 with rfl | rfl | rfl | rfl | rfl | rfl
      · exact wrNo (.inl fun h => hz' ⟨h.1, h.2.1⟩)
      · exact .read_no htx (by omega)
      · exact .share_no htx fun h => hz' ⟨h.1, h.2.1⟩
      · exact .drop_no htx fun h => hz' ⟨h.1, h.2.1⟩
      · exact .new_no htx hz'
      · exact .uses_no htx hz'
    | @rlow j h => exact goR (by rw [ho2, if_neg (fun z => absurd z.1 (by decide +kernel))]) (.read_no htx (by omega))
    | @read j h5 h =>
      have ho : o2 = .val .non := by rw [ho2, if_neg (fun z => absurd z.1 (by decide +kernel))]
      cases ho
      have e2 : v2 = .non := hv2
      cases e2
      refine ⟨G, q, k, d1, "read", .ref t, .ref u, _, rfl, J15.st, hT15, hr1, .read htx h5 (by omega), fun l B16 hl b16 h16 => ⟨.ref l, rfl, .read (J15.ex b16) h5 h (fresh_back J15.st.dk.g hl) (by rw [(J15.ct j h5 h).1]; exact h16)⟩⟩
    | @new j h =>
      have ho : o2 = .val (.bl (newB k d1 j)) := by rw [ho2, if_neg (fun z => absurd z.1 (by decide +kernel)), hnw]
      exact goV ho (by rw [ho]; exact .inr (.inr ⟨_, rfl⟩)) (fun z => by cases z) (by decide +kernel) (.new htx (by omega))
    | @uses j h =>
      have ho : o2 = .val (.int (cv d1.cs j)) := by rw [ho2, if_neg (fun z => absurd z.1 (by decide +kernel))]
      exact goV ho (by rw [ho]; exact .inr (.inl ⟨_, rfl⟩)) (fun z => by cases z) (by decide +kernel) (.uses htx (by omega))
    | @write j h hn =>
      cases vd with
      | false => exact goR (by rw [ho2, if_pos ⟨rfl, rfl⟩]) (wrNo (.inr rfl))
      | true =>
        have ho : o2 = .val .non := by rw [ho2, if_neg (fun z => absurd z.2 (by decide))]
        cases ho
        have e2 : v2 = .non := hv2
        cases e2
        obtain ⟨ws, hu, h32, hnn⟩ := hW15
        refine ⟨G, q, k, d1, "write", .ref t, .ref u, _, rfl, J15.st, hT15, hr1, .write htx hu h32 hnn (by omega) (by rw [← hnw]; exact hn), fun G' B16 S' F' T' => ⟨.non, rfl, ?_⟩⟩
        obtain ⟨k1, k2⟩ := kvs15 F'
        have hB := J15.st
        have hcd15 := J15.hcd
        have une := ints_ne J15.st hu (by omega)
        have huc : u ≠ k.cl := fun z => by
          have h9 := J15.st.c
          rw [← z, hu] at h9
          have := congrArg List.length (HO.lst.inj (Option.some.inj h9))
          rw [List.length_map, List.length_map, h32, hl1.1] at this
          omega
        exact .write J15 h (by rw [← hnw]; exact hn) h32 T' S'.g (S'.n na (by rw [J15.hna]; exact fun z => by cases z) J15.gn) (S'.n cd (by obtain ⟨kvs, a1, _⟩ := hcd15; rw [a1]; exact fun z => by cases z) J15.gd) k1 k2 (F' _ _ hu une.1 huc une.2.1)
    | @write_no j h hn => exact goR (by rw [ho2]; split <;> rfl) (wrNo (.inl fun z => by
        have := z.2.2
        rw [Int.toNat_natCast, ← hnw, hn] at this
        cases this))
    | @share j h h5 h0 =>
      have ho : o2 = .val .non := by rw [ho2, if_neg (fun z => absurd z.1 (by decide +kernel))]
      cases ho
      have e2 : v2 = .non := hv2
      cases e2
      refine ⟨G, q, k, d1, "share", .ref t, .ref u, _, rfl, J15.st, hT15, hr1, .share htx (by omega) h5 h0, fun B16 F' T' => ⟨.non, rfl, ?_⟩⟩
      obtain ⟨k1, k2⟩ := kvs15 F'
      exact .share J15 h h5 h0 T' k1 k2
    | @share_no j h hb => exact goR (by rw [ho2, if_neg (fun z => absurd z.1 (by decide +kernel))]) (.share_no htx fun z => by
        have := z.2.2.2
        rw [Int.toNat_natCast] at this
        omega)
    | @drop j h h5 h0 =>
      have ho : o2 = .val (.int (cv d1.cs j - 1)) := by rw [ho2, if_neg (fun z => absurd z.1 (by decide +kernel))]
      cases ho
      have e2 : v2 = .int (cv d1.cs j - 1) := hv2
      cases e2
      refine ⟨G, q, k, d1, "drop", .ref t, .ref u, _, rfl, J15.st, hT15, hr1, .drop htx (by omega) h5 h0, fun B16 F' T' => ⟨.int (cv d1.cs j - 1), rfl, ?_⟩⟩
      obtain ⟨k1, k2⟩ := kvs15 F'
      exact .drop J15 h h5 h0 T' k1 k2
    | @drop_no j h hb => exact goR (by rw [ho2, if_neg (fun z => absurd z.1 (by decide +kernel))]) (.drop_no htx fun z => by
        have := z.2.2.2
        rw [Int.toNat_natCast] at this
        omega)
  rintro σ' B15 ⟨v3, rfl, hA⟩
  clear hD ho2 hv2 hact2 hact
  cases hA with
  | same J h2 h3 hgo hn hd =>
    have nn : ∀ s : Str, s = "read" ∨ s = "write" ∨ s = "share" → (decide (V.str act = V.str s) && decide (v2 = V.non)) = false := fun s hs => by
      by_cases e : act = s
      · rw [out_non h2 (hn (by rw [e]; exact hs)), Bool.and_false]
      · rw [decide_eq_false fun z => e (V.str.inj z)]
        rfl
    refine q_when (b := false) (et_is (et_and (et_test (ev_op (ev_var rfl) ev_c (rv_eq rfl))) (fun _ => et_test (ev_op (ev_var rfl) ev_c rv_isN))) (nn "read" (.inl rfl))) (fun h => by cases h) (fun _ C1 c1 => ?_)
    refine q_when (b := false) (et_is (et_not (et_B (ev_call (vs := [v3, v2]) (ea_cons (ev_var rfl) (ea_cons (ev_var rfl) ea_nil)) (sv_same (h3.ex c1) (h2.ex c1) hgo)))) rfl) (fun h => by cases h) (fun _ C2 c2 => ?_)
    refine q_when (b := false) (et_is (et_and (et_test (ev_op (ev_var rfl) ev_c (rv_eq rfl))) (fun _ => et_test (ev_op (ev_var rfl) ev_c rv_isN))) (nn "write" (.inr (.inl rfl)))) (fun h => by cases h) (fun _ C3 c3 => ?_)
    refine q_when (b := false) (et_is (et_and (et_test (ev_op (ev_var rfl) ev_c (rv_eq rfl))) (fun _ => et_test (ev_op (ev_var rfl) ev_c rv_isN))) (nn "share" (.inr (.inr rfl)))) (fun h => by cases h) (fun _ C4 c4 => ?_)
    have c14 := ((c1.trans c2).trans c3).trans c4
    have fin : ∀ {Y : Hp}, Ex C4 Y → TI c G5 a ta p cd na im ha q g k (m + 1) [some (.ref a), some (.ref ta), some (.int g), some (.ref p), some (.ref cd), some (.ref na), some (.int z), some (.ref im), some (.ref ha), some (.ref q), some (.ref ra), some (.int (i : Int)), some (.str act), some (.int (pk : Int)), some (.int (fre k d)), some (.ref u), some (.bl vd), some v2, some v3, none] Y := fun e => ⟨G, d1, C, ra, rs, _, _, _, _, _, _, _, _, _, rfl, J.more.ex (c14.trans e), eG, hra, hrs9, by omega⟩
    by_cases hdr : act = "drop"
    · obtain ⟨lq, e1, h2'⟩ : ∃ lq, v2 = .ref lq ∧ B15 lq = some (.lst [.str "refused", .str (wS false)]) := by
        have hq := h2
        rw [hd hdr] at hq
        exact hq
      refine s_when (b := false) (et_is (et_and (et_test (ev_op (ev_var rfl) ev_c (rv_eq rfl))) (fun _ => et_test (ev_opL (ev_var rfl) (el_lst (ea_cons ev_c (ea_cons ev_c ea_nil)) (by decide)) (fun p2 Y hp2 y2 => by
        rw [e1]
        exact rv_neD (dp_rf (b := false) ((c14.trans y2) _ _ h2')) (dp_rf (b := false) hp2) (sh_rf false) (by decide))))) (Bool.and_false _)) (fun h => by cases h) (fun _ Y y => fin y)
    · exact s_when (b := false) (et_is (et_and (a := false) (b := false) (et_is (et_test (ev_op (ev_var rfl) ev_c (rv_eq rfl))) (decide_eq_false fun e => hdr (V.str.inj e))) (fun h => by cases h)) rfl) (fun h => by cases h) (fun _ Y y => fin y)
  | @read j l vd B15 J h5 hj gl hl2 =>
    refine q_when (b := true) (et_is (et_and (et_test (ev_op (ev_var rfl) ev_c (rv_eq rfl))) (fun _ => et_test (ev_op (ev_var rfl) ev_c rv_isN))) (by decide +kernel)) (fun _ C1 c1 => ?_) (fun h => by cases h)
    obtain ⟨kvs, hcd, hC⟩ := J.hcd
    obtain ⟨l2, hv, hl3⟩ := hC.2 j h5 hj
    have h32 := (J.ct j h5 hj).2
    have hl3B := J.st.dk.g _ _ hl3
    refine q_when (b := false) (et_is (et_not (et_B (ev_call (vs := [.ref l, .ref l2]) (ea_cons (ev_var rfl) (ea_cons (ev_dget (ev_var rfl) (ev_var rfl) (c1 _ _ hcd) hv) ea_nil)) (fun H1 e1 Q q E => ⟨l, l2, C j, rfl, (c1.trans e1) _ _ hl2, (c1.trans e1) _ _ hl3B, h32, q⟩)))) rfl) (fun h => by cases h) (fun _ C2 c2 => ?_)
    have c12 := c1.trans c2
    have une := ints_ne J.st hl2 (by omega)
    have nlen : ∀ {x : Addr} {ys : List V}, B15 x = some (.lst ys) → ys.length = 96 → l ≠ x := fun h h9 z => by
      rw [← z, hl2] at h
      have := congrArg List.length (HO.lst.inj (Option.some.inj h))
      rw [List.length_map] at this
      omega
    have n1 := nlen J.st.c (by rw [List.length_map]; exact J.len.1)
    have n2 := nlen J.hna (by rw [List.length_map]; exact J.len.1)
    have n3 : l ≠ cd := ne_of hl2 hcd (by intro z; cases z)
    refine q_setL (j := 0) (v := .int ((C j).getD 0 0 + 1)) (c12 _ _ hl2) (ev_op (ev_op (ev_var rfl) ev_c (rv_ixL (sq_of (c12 _ _ hl2)) (v := .int ((C j).getD 0 0)) (atI_nat (j := 0) (by rw [List.getElem?_map, List.getD_eq_getElem?_getD, List.getElem?_eq_getElem (show 0 < (C j).length by omega)]; rfl)))) ev_c rv_I0) (ev_var rfl) ev_c (by rw [List.length_map]; omega) fun C3 c3 => ?_
    exact ⟨G, d1, C, ra, rs, _, _, _, _, _, _, _, _, _, rfl, (J.more.ex (c12.trans c3)).updX gl une.1 n1 une.2.1 une.2.2 n2 n3, eG, hra, hrs9, by omega⟩
  | @write j ws B0 B15 G1 J hj hn h32 t g1 gn gd hna hcd hu =>
    refine q_when (b := false) (et_is (et_and (et_test (ev_op (ev_var rfl) ev_c (rv_eq rfl))) (fun _ => et_test (ev_op (ev_var rfl) ev_c rv_isN))) (by decide +kernel)) (fun h => by cases h) (fun _ C1 c1 => ?_)
    refine q_when (b := false) (et_is (et_not (et_B (ev_call (vs := [.non, .non]) (ea_cons (ev_var rfl) (ea_cons (ev_var rfl) ea_nil)) (sv_same (o := .val (.non)) rfl rfl (.inl rfl))))) rfl) (fun h => by cases h) (fun _ C2 c2 => ?_)
    refine q_when (b := true) (et_is (et_and (et_test (ev_op (ev_var rfl) ev_c (rv_eq rfl))) (fun _ => et_test (ev_op (ev_var rfl) ev_c rv_isN))) (by decide +kernel)) (fun _ C3 c3 => ?_) (fun h => by cases h)
    have c13 := (c1.trans c2).trans c3
    obtain ⟨kvs, hcd, hC⟩ := hcd
    have hcl := hC.1
    refine s_dputL' (z := (j : Int)) (el_list (ev_var rfl) (sq_of (c13 _ _ hu))) (ev_var rfl) (ev_var rfl) (c13 _ _ hcd) (by omega) fun l C4 hl4 c4 h4 => ?_
    obtain ⟨G2, S2, T2, new2⟩ := t.join (c13.trans c4)
    have gl2 := new2 _ _ (fresh_back c13 hl4) h4
    have al : ∀ {x : Addr} {o : HO}, B15 x = some o → B15 x ≠ none := fun h z => by rw [h] at z; cases z
    have gna2 := S2.n na (al hna) gn
    have gcd2 := S2.n cd (al hcd) gd
    have hcd4 := (c13.trans c4) _ _ hcd
    have dne := dict_ne T2 hcd4
    have T3 := upd_ST T2 (o := .dK (putK kvs (.inl (j : Int)) (.ref l))) gcd2 dne.1 dne.2.1 J.dm dne.2.2
    have hna4 : (L2.upd C4 cd (.dK (putK kvs (.inl (j : Int)) (.ref l)))) na = some (.lst (d1.cs.map V.int)) := by rw [upd_ne (ne_of hna hcd (by intro z; cases z))]; exact (c13.trans c4) _ _ hna
    have J4 := J.wrote hj hn h32 (g1.trans S2.g) gna2 gcd2 T3 hna4 upd_same ((hC.ex (g1.trans S2.g) (Nat.le_refl _)).put gl2)
    generalize L2.upd C4 cd (.dK (putK kvs (.inl (j : Int)) (.ref l))) = C5 at J4 ⊢
    show tSeq _ _ _ _ _
    refine q_when (b := false) (et_is (et_and (et_test (ev_op (ev_var rfl) ev_c (rv_eq rfl))) (fun _ => et_test (ev_op (ev_var rfl) ev_c rv_isN))) (by decide +kernel)) (fun h => by cases h) (fun _ C6 c6 => ?_)
    exact s_when (b := false) (et_is (et_and (a := false) (b := false) (et_is (et_test (ev_op (ev_var rfl) ev_c (rv_eq rfl))) (by decide +kernel)) (fun h => by cases h)) rfl) (fun h => by cases h) (fun _ Y y => ⟨G2, _, _, ra, rs, _, _, _, _, _, _, _, _, _, rfl, J4.ex (c6.trans y), eG.trans (g1.trans S2.g), g1.trans S2.g _ _ hra, hrs9, by omega⟩)
  | @share j vd B0 B15 J hj h5 h0 t hna hcd =>
    refine q_when (b := false) (et_is (et_and (et_test (ev_op (ev_var rfl) ev_c (rv_eq rfl))) (fun _ => et_test (ev_op (ev_var rfl) ev_c rv_isN))) (by decide +kernel)) (fun h => by cases h) (fun _ C1 c1 => ?_)
    refine q_when (b := false) (et_is (et_not (et_B (ev_call (vs := [.non, .non]) (ea_cons (ev_var rfl) (ea_cons (ev_var rfl) ea_nil)) (sv_same (o := .val (.non)) rfl rfl (.inl rfl))))) rfl) (fun h => by cases h) (fun _ C2 c2 => ?_)
    refine q_when (b := false) (et_is (et_and (et_test (ev_op (ev_var rfl) ev_c (rv_eq rfl))) (fun _ => et_test (ev_op (ev_var rfl) ev_c rv_isN))) (by decide +kernel)) (fun h => by cases h) (fun _ C3 c3 => ?_)
    refine q_when (b := true) (et_is (et_and (et_test (ev_op (ev_var rfl) ev_c (rv_eq rfl))) (fun _ => et_test (ev_op (ev_var rfl) ev_c rv_isN))) (by decide +kernel)) (fun _ C4 c4 => ?_) (fun h => by cases h)
    have c14 := ((c1.trans c2).trans c3).trans c4
    obtain ⟨kvs, hcd, hC⟩ := hcd
    have hlj : j < d1.cs.length := by rw [hl1.1]; exact hj
    refine s_setL (j := j) (v := .int (cv d1.cs j + 1)) (c14 _ _ hna) (ev_op (ev_op (ev_var rfl) (ev_var rfl) (rv_ixL (sq_of (c14 _ _ hna)) (atI_nat (K23S.cv_at hlj)))) ev_c rv_I0) (ev_var rfl) (ev_var rfl) (by rw [List.length_map]; exact hlj) fun C5 c5 => ?_
    have T4 := t.ex (c14.trans c5)
    have ine := ints_ne T4 ((c14.trans c5) _ _ hna) (by omega)
    have T5 := upd_ST T4 (o := .lst ((d1.cs.map V.int).set j (.int (cv d1.cs j + 1)))) J.gn ine.1 J.nc ine.2.1 ine.2.2
    have J5 := J.shared hj h0 T5 (by rw [upd_same, K23S.map_set]) (by rw [upd_ne (ne_of hcd hna (by intro z; cases z))]; exact (c14.trans c5) _ _ hcd) hC
    generalize L2.upd C5 na (.lst ((d1.cs.map V.int).set j (.int (cv d1.cs j + 1)))) = C6 at J5 ⊢
    exact s_when (b := false) (et_is (et_and (a := false) (b := false) (et_is (et_test (ev_op (ev_var rfl) ev_c (rv_eq rfl))) (by decide +kernel)) (fun h => by cases h)) rfl) (fun h => by cases h) (fun _ Y y => ⟨G, _, _, ra, rs, _, _, _, _, _, _, _, _, _, rfl, J5.ex y, eG, hra, hrs9, by omega⟩)
  | @drop j vd B0 B15 J hj h5 h0 t hna hcd =>
    refine q_when (b := false) (et_is (et_and (et_test (ev_op (ev_var rfl) ev_c (rv_eq rfl))) (fun _ => et_test (ev_op (ev_var rfl) ev_c rv_isN))) (by rw [show decide (V.str "drop" = V.str "read") = false from by decide +kernel]; rfl)) (fun h => by cases h) (fun _ C1 c1 => ?_)
    refine q_when (b := false) (et_is (et_not (et_B (ev_call (vs := [.int (cv d1.cs j - 1), .int (cv d1.cs j - 1)]) (ea_cons (ev_var rfl) (ea_cons (ev_var rfl) ea_nil)) (sv_same (o := .val (.int (cv d1.cs j - 1))) rfl rfl (.inr (.inl ⟨_, rfl⟩)))))) rfl) (fun h => by cases h) (fun _ C2 c2 => ?_)
    refine q_when (b := false) (et_is (et_and (et_test (ev_op (ev_var rfl) ev_c (rv_eq rfl))) (fun _ => et_test (ev_op (ev_var rfl) ev_c rv_isN))) (by rw [show decide (V.str "drop" = V.str "write") = false from by decide +kernel]; rfl)) (fun h => by cases h) (fun _ C3 c3 => ?_)
    refine q_when (b := false) (et_is (et_and (et_test (ev_op (ev_var rfl) ev_c (rv_eq rfl))) (fun _ => et_test (ev_op (ev_var rfl) ev_c rv_isN))) (by rw [show decide (V.str "drop" = V.str "share") = false from by decide +kernel]; rfl)) (fun h => by cases h) (fun _ C4 c4 => ?_)
    have c14 := ((c1.trans c2).trans c3).trans c4
    refine s_when (b := true) (et_is (et_and (et_test (ev_op (ev_var rfl) ev_c (rv_eq rfl))) (fun _ => et_test (ev_opL (ev_var rfl) (el_lst (ea_cons ev_c (ea_cons ev_c ea_nil)) (by decide)) (fun p2 Y hp2 y2 => rv_neDD (.int _) (dp_rf (b := false) hp2) (sh_int _ 1) (sh_rf false) (by decide))))) (by rw [rf_int]; decide +kernel)) (fun _ C5 c5 => ?_) (fun h => by cases h)
    have c15 := c14.trans c5
    obtain ⟨kvs, hcd, hC⟩ := hcd
    have hlj : j < d1.cs.length := by rw [hl1.1]; exact hj
    have hljh : j < k.hs.length := by rw [hl1.2]; exact hj
    have al : ∀ {x : Addr} {o : HO}, B15 x = some o → B15 x ≠ none := fun h z => by rw [h] at z; cases z
    have ncn : na ≠ cd := ne_of hna hcd (by intro z; cases z)
    have tst : ∀ {σ : L2.St}, σ[17]? = some (some (.int (cv d1.cs j - 1))) → σ[8]? = some (some (.ref ha)) → σ[6]? = some (some (.int (j : Int))) → EvT (tAnd (tTest (tOp (rEqD K) (tVar 17) (tC (.int 0)))) (tNot (tB (tOp (rIxL K) (tVar 8) (tVar 6))))) σ C5 (decide (cv d1.cs j - 1 = 0) && !K23S.hv k.hs j) := fun e1 e2 e3 => et_and (et_is (et_test (ev_op (ev_var e1) ev_c (rv_eqDD (.int _) (.int _) (sh_int _ 0) (sh_int _ 0) (by decide)))) (by simp [PyData.eqv]; rfl)) (fun _ => et_not (et_B (ev_op (ev_var e2) (ev_var e3) (rv_ixL (sq_of ((t.dk.g.trans c15) _ _ J.hha)) (atI_nat (K23S.hv_at hljh))))))
    by_cases hz : cv d1.cs j - 1 = 0 ∧ K23S.hv k.hs j = false
    · refine q_when (b := true) (et_is (tst rfl rfl rfl) (by rw [decide_eq_true hz.1, hz.2]; rfl)) (fun _ C6 c6 => ?_) (fun h => by cases h)
      have c16 := c15.trans c6
      refine s_dputL' (z := (j : Int)) (el_call (vs := [.ref im, .int (j : Int)]) (ea_cons (ev_var rfl) (ea_cons (ev_var rfl) ea_nil)) (fun X x Q q E => ⟨im, k.f, j, 96, rfl, J.him.ex (t.dk.g.trans (c16.trans x)), hj, by decide, J.st.dk.kz, q⟩)) (ev_var rfl) (ev_var rfl) (c16 _ _ hcd) (by have := hC.1; omega) fun l C7 hl7 c7 h7 => ?_
      have c17 := c16.trans c7
      obtain ⟨G2, S2, T2, new2⟩ := t.join c17
      have gl2 := new2 _ _ (fresh_back c16 hl7) h7
      have gna2 := S2.n na (al hna) J.gn
      have gcd2 := S2.n cd (al hcd) J.gd
      have dne := dict_ne T2 (c17 _ _ hcd)
      have T3 := upd_ST T2 (o := .dK (putK kvs (.inl (j : Int)) (.ref l))) gcd2 dne.1 dne.2.1 J.dm dne.2.2
      have hna7 : (L2.upd C7 cd (.dK (putK kvs (.inl (j : Int)) (.ref l)))) na = some (.lst (d1.cs.map V.int)) := by rw [upd_ne ncn]; exact c17 _ _ hna
      have hcd7 : (L2.upd C7 cd (.dK (putK kvs (.inl (j : Int)) (.ref l)))) cd = some (.dK (putK kvs (.inl (j : Int)) (.ref l))) := upd_same
      generalize L2.upd C7 cd (.dK (putK kvs (.inl (j : Int)) (.ref l))) = C8 at T3 hna7 hcd7 ⊢
      refine s_setL (j := j) (v := .int (cv d1.cs j - 1)) hna7 (ev_var rfl) (ev_var rfl) (ev_var rfl) (by rw [List.length_map]; exact hlj) fun C9 c9 => ?_
      have T4 := T3.ex c9
      have ine := ints_ne T4 (c9 _ _ hna7) (by omega)
      have T5 := upd_ST T4 (o := .lst ((d1.cs.map V.int).set j (.int (cv d1.cs j - 1)))) gna2 ine.1 J.nc ine.2.1 ine.2.2
      have eC : dropC k d1 j C = fset C j (blk k.f j) := by unfold dropC; rw [if_pos hz]
      have J5 := J.dropped hj h5 h0 S2.g gna2 gcd2 T5 (by rw [upd_same, K23S.map_set]) (by rw [upd_ne ncn.symm]; exact c9 _ _ hcd7) (by rw [eC]; exact (hC.ex S2.g (Nat.le_refl _)).put gl2)
      exact ⟨G2, _, _, ra, rs, _, _, _, _, _, _, _, _, _, rfl, J5, eG.trans S2.g, S2.g _ _ hra, hrs9, by omega⟩
    · refine q_when (b := false) (et_is (tst rfl rfl rfl) (by
        rw [Bool.and_eq_false_iff]
        by_cases e : cv d1.cs j - 1 = 0
        · right
          cases hh : K23S.hv k.hs j with
          | true => rfl
          | false => exact absurd ⟨e, hh⟩ hz
        · left
          exact decide_eq_false e)) (fun h => by cases h) (fun _ C6 c6 => ?_)
      have c16 := c15.trans c6
      refine s_setL (j := j) (v := .int (cv d1.cs j - 1)) (c16 _ _ hna) (ev_var rfl) (ev_var rfl) (ev_var rfl) (by rw [List.length_map]; exact hlj) fun C9 c9 => ?_
      have T4 := t.ex (c16.trans c9)
      have ine := ints_ne T4 ((c16.trans c9) _ _ hna) (by omega)
      have T5 := upd_ST T4 (o := .lst ((d1.cs.map V.int).set j (.int (cv d1.cs j - 1)))) J.gn ine.1 J.nc ine.2.1 ine.2.2
      have eC : dropC k d1 j C = C := by unfold dropC; rw [if_neg hz]
      have J5 := J.dropped hj h5 h0 (Ex.refl _) J.gn J.gd T5 (by rw [upd_same, K23S.map_set]) (by rw [upd_ne ncn.symm]; exact (c16.trans c9) _ _ hcd) (by rw [eC]; exact hC.ex (Ex.refl _) (Nat.le_succ _))
      exact ⟨G, _, _, ra, rs, _, _, _, _, _, _, _, _, _, rfl, J5, eG, hra, hrs9, by omega⟩
end

end K23

set_option Elab.async false
set_option linter.all false
set_option maxRecDepth 100000
set_option maxHeartbeats 4000000
namespace K23
open PySem PySem.Spec PyProof.Rows L2 Evl LK LT LG LS LQ LX LO LN LP LH LV LZ LW StX LD
open K23D (DK Dk St)
open K23S (fr cv hv headV used In flds)
section
variable {P : Program} {w : World} {K : PySem.W.Frag} {mg : Str → Option Value} {base : Heap} {c : Cc} {CN CO CS CL Pw : Addr}
theorem r_callC {σ : L2.St} {H : Hp} {tA : TA} {D : Ends} {sp : Sp} {E : XK} {vs : List V} (ht : EvA tA σ H vs) (k : ∀ H1, Ex H H1 → sp vs H1 D.rt E) : tRet (tCall sp [] E tA) D σ H :=
  ht H (Ex.refl _) _ fun H1 e1 => by
    rw [List.append_nil]
    exact k H1 e1
theorem ok_law {f fT fA fB fP fE fF fD fU fM fL fN fS f1 f2 f3 f4 f5 f6 f7 f8 f9 : Addr} {fd fdT fdA fdB fdP fdE fdF fdD fdU fdM fdL fdN fdS fd1 fd2 fd3 fd4 fd5 fd6 fd7 fd8 fd9 : FuncData} (F : Fun K "law" "law" sLaw f fd)
    (FT : Fun K "_law_tape" "_law_tape" sTape fT fdT) (bT : Binds K fdT ["script"] []) (gT : mg "_law_tape" = some (.ref fT)) (FA : Fun K "_law_at" "_law_at" sAt fA fdA) (bA : Binds K fdA ["tape", "k"] []) (gA : mg "_law_at" = some (.ref fA))
    (FLb : Fun K "_law_block" "_law_block" sLb fB fdB) (GLb : FnOk P w K mg base CX0 1 fB fdB ["number", "extra"] spLb) (bLb : Binds K fdB ["number", "extra"] []) (gLb : mg "_law_block" = some (.ref fB))
    (FLpb : Fun K "_law_put_block" "_law_put_block" sLpb fP fdP) (GLpb : FnOk P w K mg base CX0 4 fP fdP ["disk", "number", "words"] (spLpb c.D Pw)) (bLpb : Binds K fdP ["disk", "number", "words"] []) (gLpb : mg "_law_put_block" = some (.ref fP))
    (FEn : Fun K "_law_end" "_law_end" sEnd fE fdE) (GEn : FnOk P w K mg base CX0 9 fE fdE ["store", "numbers", "held", "contents", "image"] (spLend c Pw)) (bEn : Binds K fdE ["store", "numbers", "held", "contents", "image"] []) (gEn : mg "_law_end" = some (.ref fE))
    (FLfr : Fun K "_law_free" "_law_free" sLfr fF fdF) (GLfr : FnOk P w K mg base CX0 1 fF fdF ["numbers", "held"] (spLfr K)) (bLfr : Binds K fdF ["numbers", "held"] []) (gLfr : mg "_law_free" = some (.ref fF))
    (FDo : Fun K "_law_do" "_law_do" sDo fD fdD) (GDo : FnOk P w K mg base CX0 8 fD fdD ["store", "act", "pointer", "words"] (spLdo c Pw)) (bDo : Binds K fdD ["store", "act", "pointer", "words"] []) (gDo : mg "_law_do" = some (.ref fD))
    (FDu : Fun K "_law_due" "_law_due" sDue fU fdU) (GDu : FnOk P w K mg base CX0 1 fU fdU ["numbers", "held", "act", "number"] spLdue) (bDu : Binds K fdU ["numbers", "held", "act", "number"] []) (gDu : mg "_law_due" = some (.ref fU))
    (FLmk : Fun K "_law_make" "_law_make" sLmk fM fdM) (GLmk : FnOk P w K mg base CX0 9 fM fdM ["store", "numbers", "held", "contents", "words", "valid", "generation"] (spLmk c Pw)) (bLmk : Binds K fdM ["store", "numbers", "held", "contents", "words", "valid", "generation"] []) (gLmk : mg "_law_make" = some (.ref fM))
    (FLib : Fun K "_law_is_block" "_law_is_block" sLib fL fdL) (GLib : FnOk P w K mg base CX0 1 fL fdL ["told", "due"] spLib) (bLib : Binds K fdL ["told", "due"] []) (gLib : mg "_law_is_block" = some (.ref fL))
    (FLo : Fun K "_law_old" "_law_old" sLold fN fdN) (GLo : FnOk P w K mg base CX0 1 fN fdN ["image", "number"] spLold) (bLo : Binds K fdN ["image", "number"] []) (gLo : mg "_law_old" = some (.ref fN)) (FSa : Fun K "_law_same" "_law_same" sSame fS fdS) (GSa : FnOk P w K mg base CX0 1 fS fdS ["told", "due"] spSame) (bSa : Binds K fdS ["told", "due"] []) (gSa : mg "_law_same" = some (.ref fS))
    (MD : Mk K c.D f1) (Gdinit : FnOk P w K mg base (L2.CX P w) 3 f1 fd1 ["self", "blocks"] (K23D.spInit c.D)) (bdinit : Binds K fd1 ["self", "blocks"] []) (MH : Mk K c.H f2) (Ghinit : FnOk P w K mg base CX0 1 f2 fd2 ["self", "generation", "table", "blocks"] (spHin c)) (bhinit : Binds K fd2 ["self", "generation", "table", "blocks"] []) (MS : Mk K c.S f3) (Gsinit : FnOk P w K mg base CX0 1 f3 fd3 ["self", "uses"] (K23S.spInit K c.S)) (bsinit : Binds K fd3 ["self", "uses"] []) (MT : Mk K c.T f4) (Gtinit : FnOk P w K mg base CX0 1 f4 fd4 ["self", "disk", "head", "space"] (spTin c)) (btinit : Binds K fd4 ["self", "disk", "head", "space"] [])
    (Gflush : FnOk P w K mg base (L2.CX P w) 2 f5 fd5 ["self"] (K23D.spFlush c.D CO)) (bflush : Binds K fd5 ["self"] []) (mflush : Meth K c.D "flush" f5) (Gimage : FnOk P w K mg base CX0 1 f6 fd6 ["self"] (K23D.spImgs c.D fun d => K23D.due d.kept d.ws)) (bimage : Binds K fd6 ["self"] []) (mimage : Meth K c.D "image" f6)
    (Ggeneration : FnOk P w K mg base CX0 1 f7 fd7 ["self"] (spGen c)) (bgeneration : Binds K fd7 ["self"] []) (mgeneration : Meth K c.T "generation" f7) (Guse_reserve : FnOk P w K mg base CX0 1 f8 fd8 ["self", "reserve"] (spUr c)) (buse_reserve : Binds K fd8 ["self", "reserve"] []) (muse_reserve : Meth K c.T "use_reserve" f8) (Gnew_blocks : FnOk P w K mg base CX0 1 f9 fd9 ["self"] (spNb c)) (bnew_blocks : Binds K fd9 ["self"] []) (mnew_blocks : Meth K c.T "new_blocks" f9)
    (T : Txt mg) (TT : TxT mg K c.T) (TD : K23D.Txt mg K c.D) (TS : K23S.Txt mg K c.S) (TH : TxH mg K c.H) : FnOk P w K mg base CX0 10 f fd ["script"] (spLaw K Pw) := by
  have GT : FnOk P w K mg base CX0 1 fT fdT ["script"] (spTape K) := ok_tape FT T
  have GA : FnOk P w K mg base CX0 1 fA fdA ["tape", "k"] (spCel K) := ok_at FA T
  refine F.ok scLaw (fun vs H Q E h => ?_) (fun cdv A outer s H vs Q E hr h => ?_)
  · obtain ⟨a, ns, rfl, _⟩ := h
    rfl
  · obtain ⟨a, ns, rfl, hS, hlen, hTw, qq⟩ := h
    obtain ⟨tb0, hturn, kturn⟩ := ok_turn (CO := CO) F FT bT gT FA bA gA FLb GLb bLb gLb FLpb GLpb bLpb gLpb FEn GEn bEn gEn FLfr GLfr bLfr gLfr FDo GDo bDo gDo FDu GDu bDu gDu FLmk GLmk bLmk gLmk FLib GLib bLib gLib FLo GLo bLo gLo FSa GSa bSa gSa MD Gdinit bdinit MH Ghinit bhinit MS Gsinit bsinit MT Gtinit btinit Gflush bflush mflush Gimage bimage mimage Ggeneration bgeneration mgeneration Guse_reserve buse_reserve muse_reserve Gnew_blocks bnew_blocks mnew_blocks T TT TD TS TH (cdv := cdv) (A := A) (outer := outer) (s := s) (H0 := H) (E := E) hr
    refine ⟨_, (pss_cons (ps_set (i := 1) scLaw.nd rfl (Or.inl rfl) (pe_call GT (hr.mono (by decide)) (by rfl) gT FT.kp bT .nil pass0 (pa_cons (pv 0) pa_nil)))
      (pss_cons (ps_set (i := 2) scLaw.nd rfl (Or.inl rfl) (pe_op op_add pe_int (pe_op op_mod (pe_call GA (hr.mono (by decide)) (by rfl) gA FA.kp bA .nil pass0 (pa_cons (pv 1) (pa_cons pe_int pa_nil))) pe_int)))
      (pss_cons (ps_set (i := 3) scLaw.nd rfl (Or.inl rfl) (pe_make MD Gdinit (hr.mono (by decide)) (by rfl) TD.mgC bdinit .nil passL (pa_cons pe_int pa_nil)))
      (pss_cons (ps_set (i := 4) scLaw.nd rfl (Or.inl rfl) pe_dnewK)
      (pss_cons (ps_set (i := 5) scLaw.nd rfl (Or.inl rfl) (pe_op op_cat (pe_op op_rep (pe_lst (pa_cons pe_int pa_nil)) pe_int) (pe_op op_rep (pe_lst (pa_cons pe_int pa_nil)) pe_int)))
      (pss_cons (ps_for PassesOwn.never rfl (pi_range2 (by rfl) T.range (pa_cons pe_int (pa_cons pe_int pa_nil))) (pg_name (i := 6) scLaw.nd rfl (Or.inl rfl)) (pss_cons (ps_dput (hu_of hr) (pv 4) (pv 6) (pe_op op_rep (pe_lst (pa_cons pe_int pa_nil)) pe_int) (by rfl))
      (pss_one (ps_if (pt_cmpR op_lt (pv 6) pe_int (nomark _)) (pss_cons (ps_dput (hu_of hr) (pv 4) (pv 6) (pe_call GLb (hr.mono (by decide)) (by rfl) gLb FLb.kp bLb .nil pass0 (pa_cons (pv 6) (pa_cons (pe_call GA (hr.mono (by decide)) (by rfl) gA FA.kp bA .nil pass0 (pa_cons (pv 1) (pa_cons pe_int pa_nil))) pa_nil))) (by rfl))
      (pss_cons (ps_expr (pe_call GLpb (hr.mono (by decide)) (by rfl) gLpb FLpb.kp bLpb .nil pass0 (pa_cons (pv 3) (pa_cons (pv 6) (pa_cons (pe_dget (hu_of hr) (pv 4) (pv 6) (fun _ _ => rfl)) pa_nil)))))
      (pss_one (ps_asg (pe_ix ix_list (pe_lst (pa_cons pe_int (pa_cons pe_int (pa_cons pe_int (pa_cons pe_int pa_nil))))) (pe_op op_mod (pe_op op_add (pe_call GA (hr.mono (by decide)) (by rfl) gA FA.kp bA .nil pass0 (pa_cons (pv 1) (pa_cons (pe_op op_add pe_int (pe_op op_mod (pv 6) pe_int)) pa_nil))) (pv 6)) pe_int) (fun _ _ => rfl)) (pg_sub (pv 5) (pv 6) set_list))))) pss_nil))))
      (pss_cons (ps_expr (pe_meth0 (pv 3) TD.cl mflush Gflush (hr.mono (by decide)) bflush .nil passL))
      (pss_cons (ps_set (i := 7) scLaw.nd rfl (Or.inl rfl) (pe_meth0 (pv 3) TD.cl mimage Gimage (hr.mono (by decide)) bimage .nil pass0))
      (pss_cons (ps_setLc (i := 8) (own := [("many", 19)]) (g := gName 19) (tt := tYes) rfl scLaw.nd rfl rfl (sw_true rfl rfl rfl (by decide +kernel)) (pi_list (pv 5)) (blkOk_by (own := [("many", 19)]) (N := ["script", "tape", "generation", "disk", "contents", "numbers", "number", "image", "held", "store", "recent", "k", "act", "pick", "free", "words", "valid", "due", "told", "many"]) (sc := defScope sLaw) (by decide +kernel)) (fun _ _ _ _ _ => pg_name (i := 19) scLaw.nd rfl (Or.inl rfl)) (fun _ _ _ _ _ => pts_nil) (fun _ _ _ _ _ => (pe_cmpR op_gt (pv 19) pe_int (nomark _))))
      (pss_cons (ps_set (i := 9) scLaw.nd rfl (Or.inl rfl) (pe_make MT Gtinit (hr.mono (by decide)) (by rfl) TT.mgC btinit .nil pass0 (pa_cons (pv 3) (pa_cons (pe_make MH Ghinit (hr.mono (by decide)) (by rfl) TH.mgC bhinit .nil pass0 (pa_cons (pe_op op_sub (pv 2) pe_int) (pa_cons (pe_tup (pa_cons pe_int (pa_cons pe_int pa_nil))) (pa_cons pe_int pa_nil)))) (pa_cons (pe_make MS Gsinit (hr.mono (by decide)) (by rfl) TS.mgC bsinit .nil pass0 (pa_cons (pv 5) pa_nil)) pa_nil)))))
      (pss_cons (ps_if (PW.pt (pw_or (pt_cmpR op_ne (pe_meth0 (pv 9) TT.cl mgeneration Ggeneration (hr.mono (by decide)) bgeneration .nil pass0) (pv 2) (nomark _)) (pw_or (pt_cmpR (op_neD hr.units) (pe_fld (pv 9) rfl) (pe_tup (pa_cons pe_int (pa_cons pe_int pa_nil))) (nomark _)) (pw_or1 (pt_cmpR op_ne (pe_fld (pv 9) rfl) pe_int (nomark _)))))) (pss_one (ps_ret pe_bl)) pss_nil)
      (pss_cons (ps_set (i := 10) scLaw.nd rfl (Or.inl rfl) (pe_lst (pa_cons pe_int (pa_cons pe_int (pa_cons pe_int (pa_cons pe_int (pa_cons pe_int (pa_cons pe_int (pa_cons pe_int (pa_cons pe_int (pa_cons (pe_un un_neg pe_int) pa_nil)))))))))))
      (pss_cons (ps_for PassesOwn.never rfl (pi_range1 (by rfl) T.range (pa_cons (pe_callB (call_min2 rfl) (by rfl) T.min (by decide +kernel) (pa_cons pe_int (pa_cons (pe_op op_fdiv (pe_callB call_len_seq (by rfl) T.len (by decide +kernel) (pa_cons (pv 1) pa_nil)) pe_int) pa_nil))) pa_nil)) (pg_name (i := 11) scLaw.nd rfl (Or.inl rfl)) hturn)
      (pss_one (ps_ret (pe_call GEn (hr.mono (by decide)) (by rfl) gEn FEn.kp bEn .nil pass0 (pa_cons (pv 9) (pa_cons (pv 5) (pa_cons (pv 8) (pa_cons (pv 4) (pa_cons (pv 7) pa_nil))))))))))))))))))))), ?_⟩
    refine q_call (vs := [.ref a]) (ea_cons (ev_var rfl) ea_nil) fun H2 e2 => ⟨a, ns, rfl, ex_l e2 hS, hlen, fun ta H3 ts hta e3 h3 hg hl => ?_⟩
    have cc : ∀ {H' : Hp} {z : Int} {σ : L2.St} {tk : TE} (j : Nat), Ex H3 H' → z = (j : Int) → σ[1]? = some (some (.ref ta)) → Ev tk σ H' (.int z) → Ev (tCall (spCel K) [] E0 (tCons (tVar 1) (tCons tk tNil))) σ H' (.int (cellv ts j)) :=
      fun j e ez h0 hk => ev_call (ea_cons (ev_var h0) (ea_cons hk ea_nil)) (sv_cell (sq_of (e _ _ h3)) ez)
    refine q_asg (v := .int (2 + cellv ts 0 % 9)) (ev_op ev_c (ev_op (cc 0 (Ex.refl _) rfl rfl ev_c) ev_c (rv_I (by show (0 : Int) < 9; decide))) rv_I0) fun H4 e4 => ?_
    generalize 2 + cellv ts 0 % 9 = g
    refine q_make (ea_cons ev_c ea_nil) fun p dx B5 B6 hp4 hp5 b5 hp6 b6 => ⟨B5, p, dx, 96, rfl, b6, hp5, hp6, by decide, by decide, fun G1 ka sa wa B7 S7 fr7 D7 => ⟨rfl, ?_⟩⟩
    have g3 : Ex H3 G1 := (e4.trans b5).trans S7.g
    have gw : Tab G1 Pw := ((hTw.mono e2).mono e3).mono g3
    refine fun cd hcd => ?_
    have eC := Ex.new (o := .dK []) hcd
    have hcd1 : (upd B7 cd (.dK [])) cd = some (.dK []) := upd_same
    show tSeq _ _ _ _ _
    generalize upd B7 cd (.dK []) = B8 at eC hcd1 ⊢
    refine q_asgL (el_is (el_catL (el_rep1 (z := 5) (el_lst (ea_cons ev_c ea_nil) (by decide)) ev_c (by decide) (by decide)) (el_rep1 (z := 91) (el_lst (ea_cons ev_c ea_nil) (by decide)) ev_c (by decide) (by decide)) (by decide)) (show _ = (cs0.map V.int : List V) from rfl)) fun na B9 hna b9 h9 => ?_
    have D9 := D7.ex (eC.trans b9)
    have apc : Ap cd p ka sa wa := ⟨fun z => D7.al.1 (by rw [← z]; exact hcd), fun z => D7.al.2.1 (by rw [← z]; exact hcd), fun z => D7.al.2.2.1 (by rw [← z]; exact hcd), fun z => D7.al.2.2.2 (by rw [← z]; exact hcd)⟩
    have D8 := D7.ex eC
    have apn : Ap na p ka sa wa := ⟨fun z => D8.al.1 (by rw [← z]; exact hna), fun z => D8.al.2.1 (by rw [← z]; exact hna), fun z => D8.al.2.2.1 (by rw [← z]; exact hna), fun z => D8.al.2.2.2 (by rw [← z]; exact hna)⟩
    have ncn : cd ≠ na := fun z => by rw [← z, hcd1] at hna; cases hna
    have gna0 : G1 na = none := fresh_back D8.g hna
    have gcd0 : G1 cd = none := fresh_back D7.g hcd
    have kmut : ∀ {G : Hp} {B : Hp} {d : Dk} {x : Addr} {o : HO}, DK c.D G B p ka sa wa 96 d → G x = none → Ap x p ka sa wa → DK c.D G (L2.upd B x o) p ka sa wa 96 d := fun D gx ap => dk_bx D gx ap (Bx.of (Ex.refl _)).up
    refine q_forR2 (lo := 5) (n := 96) (ea_cons ev_c (ea_cons ev_c ea_nil)) ⟨by decide, by decide, by decide, by decide⟩ (fun i σ' B => ∃ G2 kvs cs d y6, σ' = [some (.ref a), some (.ref ta), some (.int g), some (.ref p), some (.ref cd), some (.ref na), y6, none, none, none, none, none, none, none, none, none, none, none, none, none] ∧ DK c.D G2 B p ka sa wa 96 d ∧ Ex G1 G2 ∧ d.kept = (fun _ => Z8) ∧ d.pw = true ∧ d.bf = none ∧ d.ws.length = 4 * min i 20 ∧ B cd = some (.dK kvs) ∧ B na = some (.lst (cs.map V.int)) ∧ G2 na = none ∧ G2 cd = none ∧ SU G2 kvs cs (K23D.due d.kept d.ws) i) (fun B eB => ⟨G1, [], cs0, _, none, rfl, D9.ex eB, Ex.refl _, rfl, rfl, rfl, rfl, eB _ _ (b9 _ _ hcd1), eB _ _ h9, gna0, gcd0, ⟨Nat.zero_le _, fun j h5 hj => absurd hj (by omega), fun j _ => rfl, rfl, by decide +kernel⟩⟩) ?_ ?_
    · rintro i σ' B hi ⟨G2, kvs, cs, d, y6, rfl, D, gg, kp, pw, bf, wl, hcdB, hnaB, gna, gcd, su⟩
      have hcast : (5 : Int) + (i : Int) = ((5 + i : Nat) : Int) := by push_cast; rfl
      have hi91 : i < 91 := by omega
      have hsl := su.l
      refine q_dputL' (z := ((5 + i : Nat) : Int)) (el_is (el_rep1 (z := 32) (el_lst (ea_cons ev_c ea_nil) (by decide)) ev_c (by decide) (by decide)) (show _ = (Z32.map V.int : List V) from rfl)) (ev_var rfl) (by rw [← hcast]; exact ev_var rfl) hcdB (by omega) fun l B1 hl1 b1 h1 => ?_
      obtain ⟨G3, S3, D3, new3⟩ := D.join b1
      have gl := new3 _ _ hl1 h1
      have alB : ∀ {x : Addr} {o : HO}, B x = some o → B x ≠ none := fun h z => by rw [h] at z; cases z
      have gna3 : G3 na = none := S3.n na (alB hnaB) gna
      have gcd3 : G3 cd = none := S3.n cd (alB hcdB) gcd
      have D3' := kmut (o := .dK (putK kvs (.inl ((5 + i : Nat) : Int)) (.ref l))) D3 gcd3 apc
      have c3 : (L2.upd B1 cd (.dK (putK kvs (.inl ((5 + i : Nat) : Int)) (.ref l)))) cd = some (.dK (putK kvs (.inl ((5 + i : Nat) : Int)) (.ref l))) := upd_same
      have n3 : (L2.upd B1 cd (.dK (putK kvs (.inl ((5 + i : Nat) : Int)) (.ref l)))) na = some (.lst (cs.map V.int)) := by rw [upd_ne ncn.symm]; exact b1 _ _ hnaB
      generalize L2.upd B1 cd (.dK (putK kvs (.inl ((5 + i : Nat) : Int)) (.ref l))) = B2 at D3' c3 n3 ⊢
      have gg3 := gg.trans S3.g
      refine s_when (b := decide ((5 : Int) + (i : Int) < 25)) (et_test (ev_op (ev_var rfl) ev_c rv_I0)) (fun hb B3 b3 => ?_) (fun hb B3 b3 => ⟨G3, _, cs, d, _, rfl, D3'.ex b3, gg3, kp, pw, bf, by rw [wl]; have := of_decide_eq_false hb; omega, b3 _ _ c3, b3 _ _ n3, gna3, gcd3, su.step S3.g (Nat.le_trans (length_putK _ _ _) (by omega)) put_v (fun j hj => put_o j hj) gl rfl (fun _ _ => rfl) (su.z _ (.inl (Nat.le_refl _))) (fun _ => rfl) su.n su.p⟩)
      have hlt : i < 20 := by
        have := of_decide_eq_true hb
        omega
      have gB3 := gg3.trans (D3'.g.trans b3)
      refine q_dputK (vs := [.int (5 + (i : Int)), .int (cellv ts 1)]) (ea_cons (ev_var rfl) (ea_cons (cc 1 (g3.trans gB3) rfl rfl ev_c) ea_nil)) fun B4 b4 => ⟨5 + (i : Int), cellv ts 1, rfl, by omega, by omega, (hg.cell 1).1, (hg.cell 1).2, fun l2 B5 ns hl2 b5 h5 h32 hnn => ?_⟩
      have b35 := (b3.trans b4).trans b5
      refine dput_fin (z := ((5 + i : Nat) : Int)) (ev_var rfl) (by rw [← hcast]; exact ev_var rfl) (b35 _ _ c3) (by have := length_putK kvs (Sum.inl ((5 + i : Nat) : Int) : Key) (V.ref l); omega) fun B6 b6 => ?_
      obtain ⟨G4, S4, D4, new4⟩ := (D3'.ex b3).join ((b4.trans b5).trans b6)
      have gl2 := new4 _ _ (fresh_back b4 hl2) (b6 _ _ h5)
      have al3 : ∀ {x : Addr} {o : HO}, B3 x = some o → B3 x ≠ none := fun h z => by rw [h] at z; cases z
      have gna4 : G4 na = none := S4.n na (al3 (b3 _ _ n3)) gna3
      have gcd4 : G4 cd = none := S4.n cd (al3 (b3 _ _ c3)) gcd3
      have D4' := kmut (o := .dK (putK (putK kvs (.inl ((5 + i : Nat) : Int)) (.ref l)) (.inl ((5 + i : Nat) : Int)) (.ref l2))) D4 gcd4 apc
      have c4 : (L2.upd B6 cd (.dK (putK (putK kvs (.inl ((5 + i : Nat) : Int)) (.ref l)) (.inl ((5 + i : Nat) : Int)) (.ref l2)))) cd = some (.dK (putK (putK kvs (.inl ((5 + i : Nat) : Int)) (.ref l)) (.inl ((5 + i : Nat) : Int)) (.ref l2))) := upd_same
      have n4 : (L2.upd B6 cd (.dK (putK (putK kvs (.inl ((5 + i : Nat) : Int)) (.ref l)) (.inl ((5 + i : Nat) : Int)) (.ref l2)))) na = some (.lst (cs.map V.int)) := by rw [upd_ne ncn.symm]; exact (b35.trans b6) _ _ n3
      generalize L2.upd B6 cd (.dK (putK (putK kvs (.inl ((5 + i : Nat) : Int)) (.ref l)) (.inl ((5 + i : Nat) : Int)) (.ref l2))) = B7 at D4' c4 n4 ⊢
      refine q_dropCall (vs := [.ref p, .int ((5 + i : Nat) : Int), .ref l2]) (ea_cons (ev_var rfl) (ea_cons (by rw [← hcast]; exact ev_var rfl) (ea_cons (ev_dget (ev_var rfl) (z := ((5 + i : Nat) : Int)) (by rw [← hcast]; exact ev_var rfl) c4 put_v) ea_nil))) fun B8 b8 => ⟨G4, p, ka, sa, wa, 96, d, l2, ns, 5 + i, rfl, D4'.ex b8, b8 _ _ (D4'.g _ _ gl2), h32, hnn, by omega, pw, bf, by omega, gw.mono (gg3.trans S4.g), fun G5 B9 S9 fr9 D9' => ?_⟩
      have n9 : B9 na = some (.lst (cs.map V.int)) := fr9 _ _ (b8 _ _ n4) apn.1 apn.2.2.1 apn.2.2.2
      have c9 := fr9 _ _ (b8 _ _ c4) apc.1 apc.2.2.1 apc.2.2.2
      have al8 : ∀ {x : Addr} {o : HO}, B8 x = some o → B8 x ≠ none := fun h z => by rw [h] at z; cases z
      have gna5 : G5 na = none := S9.n na (al8 (b8 _ _ n4)) gna4
      have gcd5 : G5 cd = none := S9.n cd (al8 (b8 _ _ c4)) gcd4
      have gg5 := (gg3.trans S4.g).trans S9.g
      have ej : (1 : Int) + (5 + (i : Int)) % 5 = ((1 + (5 + i) % 5 : Nat) : Int) := by push_cast; omega
      obtain ⟨mm, hm0, hat⟩ := pick4 (Int.emod_nonneg (cellv ts (1 + (5 + i) % 5) + (5 + (i : Int))) (show (4 : Int) ≠ 0 by decide)) (Int.emod_lt_of_pos _ (show (0 : Int) < 4 by decide))
      refine s_setL (j := 5 + i) (v := .int mm) n9 (ev_opL1 (xs := ([0, 1, 2, 1] : List Int).map V.int) (el_lst (ea_cons ev_c (ea_cons ev_c (ea_cons ev_c (ea_cons ev_c ea_nil)))) (by decide)) (fun B b => ev_op (ev_op (cc (1 + (5 + i) % 5) (g3.trans (gg5.trans (D9'.g.trans b))) ej rfl (ev_op ev_c (ev_op (ev_var rfl) ev_c (rv_I (by show (0 : Int) < 5; decide))) rv_I0)) (ev_var rfl) rv_I0) ev_c (rv_I (by show (0 : Int) < 4; decide))) (fun _ _ hp _ => rv_ixL (sq_of hp) hat)) (ev_var rfl) (by rw [← hcast]; exact ev_var rfl) (by rw [List.length_map, su.n]; omega) fun B10 b10 => ⟨G5, _, cs.set (5 + i) mm, _, some (.int (5 + (i : Int))), rfl, kmut (D9'.ex b10) gna5 apn, gg5, kp, rfl, rfl, ?_, by rw [upd_ne ncn]; exact b10 _ _ c9, by rw [upd_same, K23S.map_set], gna5, gcd5, su.step (ns := ns) ((S3.g.trans S4.g).trans S9.g) ?_ put_v (fun j hj => by rw [put_o j hj, put_o j hj]) (S9.g _ _ gl2) h32 (fun j hj => blk_ot _ _ _ hj) (blk_wb _ _ _ h32) (fun h => absurd h (by omega)) (by rw [List.length_set, su.n]) fun x hx => ?_⟩
      · show (d.ws ++ wb (5 + i) ns 4).length = _
        unfold wb
        rw [List.length_append, wl, List.length_map, List.length_range]
        omega
      · have h1 := length_putK (putK kvs (Sum.inl ((5 + i : Nat) : Int) : Key) (V.ref l)) (Sum.inl ((5 + i : Nat) : Int)) (V.ref l2)
        have h2 := length_putK kvs (Sum.inl ((5 + i : Nat) : Int) : Key) (V.ref l)
        omega
      · rw [cv_set (by rw [su.n]; omega)]
        split
        · exact hm0
        · exact su.p x hx
    · rintro σ' B ⟨G2, kvs, cs, d, y6, rfl, D, gg, kp, pw, bf, wl, hcdB, hnaB, gna, gcd, su⟩
      replace su : SU G2 kvs cs (K23D.due d.kept d.ws) 91 := su
      have dno : ∀ {n : Nat} {ka sa wa : Addr} {pw : Bool} {bf : Option Nat} {m : Str}, m = "flush" ∨ m = "image" → (K23D.dfl n ka sa wa pw bf).lookup m = Option.none := fun h => by
        rcases h with rfl | rfl <;> exact K23D.d_no ⟨by decide +kernel, by decide +kernel, by decide +kernel, by decide +kernel, by decide +kernel, by decide +kernel⟩
      obtain ⟨dx1, ho1⟩ := D.o
      refine q_m (ev_var rfl) ho1 (dno (.inl rfl)) ea_nil fun B1 b1 => ⟨G2, p, ka, sa, wa, 96, d, rfl, D.ex b1, fun hon G3 B2 sa2 wa2 S2 fr2 D2 => ?_, fun hno => absurd ⟨pw, by rw [bf]; exact fun z => by cases z⟩ hno⟩
      have hK : K23D.aftN d.kept d.ws (fun _ => 8) d.ws.length = K23D.due d.kept d.ws := by
        rw [aft_due D.kz (fun w hw => (D.ok w hw).2) _ (Nat.le_refl _), List.take_length]
      rw [hK, pw, show d.bf.map (· - 1) = none by rw [bf]; rfl] at D2
      obtain ⟨f, hf⟩ : ∃ f, f = K23D.due d.kept d.ws := ⟨_, rfl⟩
      rw [← hf] at D2 su
      have n2 : B2 na = some (.lst (cs.map V.int)) := fr2 _ _ (b1 _ _ hnaB) apn.1 apn.2.1
      have c2 : B2 cd = some (.dK kvs) := fr2 _ _ (b1 _ _ hcdB) apc.1 apc.2.1
      have al1 : ∀ {x : Addr} {o : HO}, B1 x = some o → B1 x ≠ none := fun h z => by rw [h] at z; cases z
      have gna3 : G3 na = none := S2.n na (al1 (b1 _ _ hnaB)) gna
      have gcd3 : G3 cd = none := S2.n cd (al1 (b1 _ _ hcdB)) gcd
      have gg3 := gg.trans S2.g
      have su3 : SU G3 kvs cs f 91 := ⟨su.l, fun j h5 hj => (let ⟨x, a1, a2, a3⟩ := su.c j h5 hj; ⟨x, a1, S2.g _ _ a2, a3⟩), su.z, su.n, su.p⟩
      obtain ⟨dx2, ho2⟩ := D2.o
      refine q_mA (ev_var rfl) ho2 (dno (.inr rfl)) ea_nil fun B3 b3 => ⟨G3, p, ka, sa2, wa2, 96, _, rfl, D2.ex b3, fun im ys B4 him0 b4 himx hyl hyr => ?_⟩
      obtain ⟨ims, rfl⟩ := refs_of (xs := ys) fun y hy => by
        obtain ⟨j, hj⟩ := List.mem_iff_getElem?.mp hy
        obtain ⟨x, h1, _⟩ := hyr j y hj
        exact ⟨x, h1⟩
      refine q_asgL (K23S.el_pos (ev_var rfl) (sq_of ((b3.trans b4) _ _ n2)) (by rw [su.n]; decide) (fun _ => rfl) (by show 19 < 20; decide)) fun ha B5 hha b5 hhax => ?_
      obtain ⟨G4, S4, D4, new4⟩ := D2.join ((b3.trans b4).trans b5)
      have gha := new4 _ _ (fresh_back (b3.trans b4) hha) hhax
      have gim : ImgL G4 im (4 * 96) f := ⟨ims, new4 _ _ (fresh_back b3 him0) (b5 _ _ himx), by rw [List.length_map] at hyl; omega, fun j x hj => by
        obtain ⟨y, e1, e2, e3, _⟩ := hyr j (.ref x) (by rw [List.getElem?_map, hj]; rfl)
        cases e1
        exact new4 _ _ (fresh_back b3 e2) (b5 _ _ e3)⟩
      have al2 : ∀ {x : Addr} {o : HO}, B2 x = some o → B2 x ≠ none := fun h z => by rw [h] at z; cases z
      have gna4 : G4 na = none := S4.n na (al2 n2) gna3
      have gcd4 : G4 cd = none := S4.n cd (al2 c2) gcd3
      have n5 := ((b3.trans b4).trans b5) _ _ n2
      have c5 := ((b3.trans b4).trans b5) _ _ c2
      refine q_mk3 (v3 := .ref p) (va := .int (g - 1)) (vn := .int 96) (vu := .ref na) (xs := [.int 5, .int 1]) (ev_var rfl) (fun B b => ev_op (ev_var rfl) ev_c rv_I0) (fun B b => eu_tup (ea_cons ev_c (ea_cons ev_c ea_nil)) (by decide)) (fun B b => ev_c) (fun tb hp dh B6 B7 htb htbx b6 hhp hhpx b7 => ⟨hp, tb, dh, g - 1, 96, rfl, hhpx, fun B8 b8 hp8 => ⟨rfl, B8, rfl, ev_var rfl, fun B9 sp ds B10 b9 hsp hspx b10 => ?_⟩⟩) spHin_mono spSin_mono
      have hhp5 : B5 hp = none := fresh_back b6 hhp
      have x58 : Ex B5 B8 := b8.ex (b6.trans b7) hhp5
      have x510 := (x58.trans b9).trans b10
      refine ⟨sp, na, ds, cs, rfl, hspx, sq_of (x510 _ _ n5), by rw [su.n]; decide, fun cl hld B11 fr11 hcl0 hhl0 hch SS => ⟨rfl, fun q dq B12 hq hqx b12 => ?_⟩⟩
      have hsp5 : B5 sp = none := fresh_back (x58.trans b9) hsp
      have x511 : Ex B5 B11 := fun x o hx => fr11 x o (x510 _ _ hx) fun z => by rw [z, hsp5] at hx; cases hx
      have x512 := x511.trans b12
      have hcl5 : B5 cl = none := fresh_back x510 hcl0
      have hq5 : B5 q = none := fresh_back x511 hq
      obtain ⟨G5, S5, D5, new5, no5⟩ := dk_joinX D4 x512 (fun x => x = cl ∨ x = q) (fun x hx => hx.elim (fun z => by rw [z]; exact hcl5) fun z => by rw [z]; exact hq5)
      have hne : hp ≠ sp := fun z => by
        rw [← z, b9 _ _ hp8] at hsp
        cases hsp
      have hp10 := b10 _ _ (b9 _ _ hp8)
      have hp11 := fr11 hp _ hp10 hne
      have hp12 := b12 _ _ hp11
      obtain ⟨dS, hS11⟩ := SS.o
      have hhl5 : B5 hld = none := fresh_back x510 hhl0
      have ncl : ∀ {x : Addr} {o : HO}, B10 x = some o → x ≠ cl := fun h z => by rw [z, hcl0] at h; cases h
      have nq : ∀ {x : Addr} {o : HO}, B11 x = some o → x ≠ q := fun h z => by rw [z, hq] at h; cases h
      have ghp := new5 hp _ hhp5 (fun z => z.elim (ncl hp10) (nq hp11)) hp12
      have gsp := new5 sp _ hsp5 (fun z => z.elim (ncl hspx) (nq hS11)) (b12 _ _ hS11)
      have ghl := new5 hld _ hhl5 (fun z => z.elim (fun e => hch e.symm) (nq SS.h)) (b12 _ _ SS.h)
      obtain ⟨ap5, ak5, as5, aw5⟩ := D4.al
      have nof : ∀ {x : Addr}, B5 x = none → x ≠ p ∧ x ≠ ka ∧ x ≠ sa2 ∧ x ≠ wa2 := fun h => ⟨fun z => ap5 (by rw [← z]; exact h), fun z => ak5 (by rw [← z]; exact h), fun z => as5 (by rw [← z]; exact h), fun z => aw5 (by rw [← z]; exact h)⟩
      refine ⟨G5, q, dq, ⟨p, hp, sp, tb, p, cl, hld, ka, sa2, wa2, g - 1, K23S.pos cs, f, 96⟩, cs, rfl, hqx, ⟨D5, no5 q (.inr rfl), ⟨dh, ghp⟩, ⟨dS, by rw [su.n] at gsp; exact gsp⟩, b12 _ _ SS.c, no5 cl (.inl rfl), ghl, su.n, by show (K23S.pos cs).length = 96; rw [← su.n]; exact List.length_map _, nof hq5, nof hcl5, (fun z => by
        have z' : q = cl := z
        rw [z', SS.c] at hq
        cases hq)⟩, fun m B13 fr13 T13 => ⟨rfl, ?_⟩⟩
      have al5 : ∀ {x : Addr} {o : HO}, B5 x = some o → B5 x ≠ none := fun h z => by rw [h] at z; cases z
      have n13 : B13 na = some (.lst (cs.map V.int)) := fr13 _ _ (x512 _ _ n5) fun z => by rw [z, hq5] at n5; cases n5
      have c13 : B13 cd = some (.dK kvs) := fr13 _ _ (x512 _ _ c5) fun z => by rw [z, hq5] at c5; cases c5
      have hpos : ∀ x, x < 96 → hv (K23S.pos cs) x = decide (cv cs x > 0) := fun x hx => by
        unfold K23S.hv K23S.pos K23S.cv
        rw [List.getD_eq_getElem?_getD, List.getD_eq_getElem?_getD, List.getElem?_map, List.getElem?_eq_getElem (show x < cs.length by rw [su.n]; exact hx)]
        rfl
      have nacl : na ≠ cl := fun z => by
        rw [z, hcl5] at n5
        cases n5
      have ncm : cd ≠ m := fun z => by
        obtain ⟨kv2, h1, h2⟩ := T13.mm
        have h1 : B13 m = some (.dK kv2) := h1
        rw [← z, c13] at h1
        obtain ⟨y, a1, _⟩ := su3.c 5 (by decide) (by decide)
        rcases h2.v 5 with ⟨_, b⟩ | ⟨_, _, b, _⟩
        · rw [← HO.dK.inj (Option.some.inj h1), a1] at b
          cases b
        · cases b
      have J : LJ c G5 B13 q ⟨p, hp, sp, tb, m, cl, hld, ka, sa2, wa2, g - 1, K23S.pos cs, f, 96⟩ ⟨60, cs, fun _ => none⟩ na ha cd im (blk f) 0 := ⟨T13, rfl, n13, S5.n na (al5 n5) gna4, S5.g _ _ gha, ⟨kvs, c13, by have := su3.l; omega, fun x h5 h9 => (let ⟨y, a1, a2, _⟩ := su3.c x h5 (by omega); ⟨y, a1, S5.g _ _ (S4.g _ _ a2)⟩)⟩, S5.n cd (al5 c5) gcd4, nacl, ncm, gim.ex S5.g, fun x h5 h9 => ⟨rfl, (su3.c x h5 (by omega)).choose_spec.2.2⟩, fun x hx => ⟨fun h => absurd rfl h, fun h => by
          have h2 : hv (K23S.pos cs) x = false := h.2
          rw [hpos x hx, decide_eq_true h.1] at h2
          cases h2⟩, su.p, by
        show ((List.range 96).filter fun _ => (none : Option (List Int)).isSome).length ≤ 0
        decide +kernel⟩
      have htb8 := b8 tb _ (fun z => by rw [z, hhp] at htbx; cases htbx) (b7 _ _ htbx)
      have htb11 := fr11 tb _ (b10 _ _ (b9 _ _ htb8)) fun z => by
        have h := b9 _ _ htb8
        rw [z, hsp] at h
        cases h
      have htb13 : B13 tb = some (.tup [.int 5, .int 1]) := fr13 tb _ (b12 _ _ htb11) fun z => by
        rw [z, hq] at htb11
        cases htb11
      obtain ⟨dxq, hoq⟩ := T13.o
      refine q_when (b := false) (et_is (et_or (et_test (ev_op (ev_meth0 (ev_var rfl) hoq (tno (.inl rfl)) (sv_gen T13)) (ev_var rfl) (rv_ne rfl))) (fun _ => et_or (et_test (ev_opU (ev_fld (ev_var rfl) hoq TT.cl TT.nt t_t) (eu_tup (ea_cons ev_c (ea_cons ev_c ea_nil)) (by decide)) (fun p2 Y hp2 y => rv_neD (dp_tp (y _ _ htb13)) (dp_tp hp2) (sh_tp 5 1) (by decide)))) (fun _ => et_test (ev_op (ev_fld (ev_var rfl) hoq TT.cl TT.nr t_r) ev_c (rv_ne rfl))))) (by
        show (!decide (V.int (g - 1 + 1) = V.int g) || (false || !decide (V.int 60 = V.int 60))) = false
        rw [show g - 1 + 1 = g by omega]
        simp)) (fun h => by cases h) (fun _ B14 b14 => ?_)
      refine q_asgL (xs := ([5, 6, 7, 24, 4, 95, 96, 0, -1] : List Int).map V.int) (el_lst (ea_cons ev_c (ea_cons ev_c (ea_cons ev_c (ea_cons ev_c (ea_cons ev_c (ea_cons ev_c (ea_cons ev_c (ea_cons ev_c (ea_cons (ev_un ev_c ru_neg) ea_nil))))))))) (by decide)) fun ra B15 hra0 b15 hrax => ?_
      obtain ⟨G6, S6, J6, new6⟩ := J.join (b14.trans b15)
      have gra := new6 _ _ (fresh_back b14 hra0) hrax
      have hH : Ex H3 G6 := ((g3.trans gg3).trans (S4.g.trans S5.g)).trans S6.g
      have hta6 := hH _ _ h3
      have hT6 : Tab G6 Pw := gw.mono ((gg3.trans (S4.g.trans S5.g)).trans S6.g)
      have hta15 := J6.st.dk.g _ _ hta6
      have hnb : 0 ≤ (if (ts.length : Int) / 2 < 50 then (ts.length : Int) / 2 else 50) ∧ (if (ts.length : Int) / 2 < 50 then (ts.length : Int) / 2 else 50) ≤ 50 := by split <;> omega
      refine q_forR1 (n := if (ts.length : Int) / 2 < 50 then (ts.length : Int) / 2 else 50) (ea_cons (ev_min2 ev_c (ev_op (ev_is (w := .int (ts.length : Int)) (ev_lenL (ev_var rfl) hta15) (by rw [List.length_map])) ev_c (rv_I ⟨by decide, by decide⟩))) ea_nil) ⟨hnb.1, by omega⟩ (fun i σ' B => TI c G6 a ta p cd na im ha q g _ i σ' B) (fun B eB => ⟨G6, _, _, ra, _, _, _, _, _, _, _, _, _, _, rfl, J6.ex eB, Ex.refl _, gra, by decide, by decide⟩) ?_ ?_
      · intro i σ' B hi h
        exact kturn { nx := fun _ _ => True, rt := _, bk := _, ct := fun _ _ => True } G6 a ta p cd na im ha q g _ ts i i σ' B hta6 hg hT6 (by show g = g - 1 + 1; omega) (by omega) (by omega) h
      · rintro σ' B ⟨G, d9, C9, ra9, rs9, y6, y11, y12, y13, y14, y15, y16, y17, y18, rfl, J9, eG, _⟩
        exact r_callC (vs := [.ref q, .ref na, .ref ha, .ref cd, .ref im]) (ea_cons (ev_var rfl) (ea_cons (ev_var rfl) (ea_cons (ev_var rfl) (ea_cons (ev_var rfl) (ea_cons (ev_var rfl) ea_nil))))) fun X x => ⟨G, q, _, d9, na, ha, cd, im, C9, _, rfl, J9.ex x, by omega, hT6.mono eG, fun Y y => qq Y (((e2.trans e3).trans (hH.trans eG)).trans y)⟩
end

end K23

set_option Elab.async false
set_option linter.all false
set_option maxRecDepth 100000
set_option maxHeartbeats 4000000
namespace K23
open PySem PySem.Spec PyProof.Rows L2 Evl LK LT LG LS LQ LX LO LN LP LH LV LZ LW StX LD
def d1 : He.DefD := ⟨("is_word", none), "is_word", "is_word", defArgs K23D.sIw, defBody K23D.sIw, defScope K23D.sIw, [], []⟩
def d2 : He.DefD := ⟨("are_words", none), "are_words", "are_words", defArgs K23D.sAre, defBody K23D.sAre, defScope K23D.sAre, [], []⟩
def d3 : He.DefD := ⟨("is_size", none), "is_size", "is_size", defArgs K23D.sSize, defBody K23D.sSize, defScope K23D.sSize, [], []⟩
def d4 : He.DefD := ⟨("Disk", some "__init__"), "__init__", "Disk.__init__", defArgs K23D.sInit, defBody K23D.sInit, defScope K23D.sInit, [], []⟩
def d5 : He.DefD := ⟨("Disk", some "read"), "read", "Disk.read", defArgs K23D.sRead, defBody K23D.sRead, defScope K23D.sRead, [], []⟩
def d6 : He.DefD := ⟨("Disk", some "write"), "write", "Disk.write", defArgs K23D.sWrite, defBody K23D.sWrite, defScope K23D.sWrite, [], []⟩
def d7 : He.DefD := ⟨("Disk", some "flush"), "flush", "Disk.flush", defArgs K23D.sFlush, defBody K23D.sFlush, defScope K23D.sFlush, [], []⟩
def d8 : He.DefD := ⟨("Disk", some "waiting"), "waiting", "Disk.waiting", defArgs K23D.sWait, defBody K23D.sWait, defScope K23D.sWait, [], []⟩
def d9 : He.DefD := ⟨("Disk", some "image"), "image", "Disk.image", defArgs K23D.sImg, defBody K23D.sImg, defScope K23D.sImg, [], []⟩
def d10 : He.DefD := ⟨("Disk", some "_is_sector"), "_is_sector", "Disk._is_sector", defArgs K23D.sSec, defBody K23D.sSec, defScope K23D.sSec, [], []⟩
def d11 : He.DefD := ⟨("Disk", some "_begin_operation"), "_begin_operation", "Disk._begin_operation", defArgs K23D.sBeg, defBody K23D.sBeg, defScope K23D.sBeg, [], []⟩
def d12 : He.DefD := ⟨("Disk", some "_settle_writes"), "_settle_writes", "Disk._settle_writes", defArgs K23D.sSet, defBody K23D.sSet, defScope K23D.sSet, [], []⟩
def d13 : He.DefD := ⟨("Space", some "__init__"), "__init__", "Space.__init__", defArgs K23S.sInit, defBody K23S.sInit, defScope K23S.sInit, [], []⟩
def d14 : He.DefD := ⟨("Space", some "take"), "take", "Space.take", defArgs K23S.sTake, defBody K23S.sTake, defScope K23S.sTake, [], []⟩
def d15 : He.DefD := ⟨("Space", some "least_free"), "least_free", "Space.least_free", defArgs K23S.sLeast, defBody K23S.sLeast, defScope K23S.sLeast, [], []⟩
def d16 : He.DefD := ⟨("Space", some "share"), "share", "Space.share", defArgs K23S.sShare, defBody K23S.sShare, defScope K23S.sShare, [], []⟩
def d17 : He.DefD := ⟨("Space", some "drop"), "drop", "Space.drop", defArgs K23S.sDrop, defBody K23S.sDrop, defScope K23S.sDrop, [], []⟩
def d18 : He.DefD := ⟨("Space", some "uses"), "uses", "Space.uses", defArgs K23S.sUses, defBody K23S.sUses, defScope K23S.sUses, [], []⟩
def d19 : He.DefD := ⟨("Space", some "is_new"), "is_new", "Space.is_new", defArgs K23S.sNew, defBody K23S.sNew, defScope K23S.sNew, [], []⟩
def d20 : He.DefD := ⟨("Space", some "is_free"), "is_free", "Space.is_free", defArgs K23S.sFree, defBody K23S.sFree, defScope K23S.sFree, [], []⟩
def d21 : He.DefD := ⟨("Space", some "free"), "free", "Space.free", defArgs K23S.sFr, defBody K23S.sFr, defScope K23S.sFr, [], []⟩
def d22 : He.DefD := ⟨("Space", some "_count_unused"), "_count_unused", "Space._count_unused", defArgs K23S.sCu, defBody K23S.sCu, defScope K23S.sCu, [], []⟩
def d23 : He.DefD := ⟨("Space", some "_check_exists"), "_check_exists", "Space._check_exists", defArgs K23S.sCe, defBody K23S.sCe, defScope K23S.sCe, [], []⟩
def d24 : He.DefD := ⟨("Space", some "_check_used"), "_check_used", "Space._check_used", defArgs K23S.sCk, defBody K23S.sCk, defScope K23S.sCk, [], []⟩
def d25 : He.DefD := ⟨("read_block", none), "read_block", "read_block", defArgs sRb, defBody sRb, defScope sRb, [], []⟩
def d26 : He.DefD := ⟨("Head", some "__init__"), "__init__", "Head.__init__", defArgs sHin, defBody sHin, defScope sHin, [], []⟩
def d27 : He.DefD := ⟨("Store", some "__init__"), "__init__", "Store.__init__", defArgs sInit, defBody sInit, defScope sInit, [], []⟩
def d28 : He.DefD := ⟨("Store", some "use_reserve"), "use_reserve", "Store.use_reserve", defArgs sUr, defBody sUr, defScope sUr, [], []⟩
def d29 : He.DefD := ⟨("Store", some "generation"), "generation", "Store.generation", defArgs sGen, defBody sGen, defScope sGen, [], []⟩
def d30 : He.DefD := ⟨("Store", some "read"), "read", "Store.read", defArgs sRead, defBody sRead, defScope sRead, [], []⟩
def d31 : He.DefD := ⟨("Store", some "next_pointer"), "next_pointer", "Store.next_pointer", defArgs sNp, defBody sNp, defScope sNp, [], []⟩
def d32 : He.DefD := ⟨("Store", some "make"), "make", "Store.make", defArgs sMake, defBody sMake, defScope sMake, [], []⟩
def d33 : He.DefD := ⟨("Store", some "is_new"), "is_new", "Store.is_new", defArgs sNew, defBody sNew, defScope sNew, [], []⟩
def d34 : He.DefD := ⟨("Store", some "write"), "write", "Store.write", defArgs sWrite, defBody sWrite, defScope sWrite, [], []⟩
def d35 : He.DefD := ⟨("Store", some "share"), "share", "Store.share", defArgs sShare, defBody sShare, defScope sShare, [], []⟩
def d36 : He.DefD := ⟨("Store", some "drop"), "drop", "Store.drop", defArgs sDrop, defBody sDrop, defScope sDrop, [], []⟩
def d37 : He.DefD := ⟨("Store", some "uses"), "uses", "Store.uses", defArgs sUses, defBody sUses, defScope sUses, [], []⟩
def d38 : He.DefD := ⟨("Store", some "require"), "require", "Store.require", defArgs sReq, defBody sReq, defScope sReq, [], []⟩
def d39 : He.DefD := ⟨("Store", some "free"), "free", "Store.free", defArgs sFree, defBody sFree, defScope sFree, [], []⟩
def d40 : He.DefD := ⟨("Store", some "new_blocks"), "new_blocks", "Store.new_blocks", defArgs sNb, defBody sNb, defScope sNb, [], []⟩
def d41 : He.DefD := ⟨("_law_tape", none), "_law_tape", "_law_tape", defArgs sTape, defBody sTape, defScope sTape, [], []⟩
def d42 : He.DefD := ⟨("_law_at", none), "_law_at", "_law_at", defArgs sAt, defBody sAt, defScope sAt, [], []⟩
def d43 : He.DefD := ⟨("_law_block", none), "_law_block", "_law_block", defArgs sLb, defBody sLb, defScope sLb, [], []⟩
def d44 : He.DefD := ⟨("_law_is_block", none), "_law_is_block", "_law_is_block", defArgs sLib, defBody sLib, defScope sLib, [], []⟩
def d45 : He.DefD := ⟨("_law_put_block", none), "_law_put_block", "_law_put_block", defArgs sLpb, defBody sLpb, defScope sLpb, [], []⟩
def d46 : He.DefD := ⟨("_law_do", none), "_law_do", "_law_do", defArgs sDo, defBody sDo, defScope sDo, [], []⟩
def d47 : He.DefD := ⟨("_law_free", none), "_law_free", "_law_free", defArgs sLfr, defBody sLfr, defScope sLfr, [], []⟩
def d48 : He.DefD := ⟨("_law_due", none), "_law_due", "_law_due", defArgs sDue, defBody sDue, defScope sDue, [], []⟩
def d49 : He.DefD := ⟨("_law_same", none), "_law_same", "_law_same", defArgs sSame, defBody sSame, defScope sSame, [], []⟩
def d50 : He.DefD := ⟨("_law_make", none), "_law_make", "_law_make", defArgs sLmk, defBody sLmk, defScope sLmk, [], []⟩
def d51 : He.DefD := ⟨("_law_old", none), "_law_old", "_law_old", defArgs sLold, defBody sLold, defScope sLold, [], []⟩
def d52 : He.DefD := ⟨("_law_end", none), "_law_end", "_law_end", defArgs sEnd, defBody sEnd, defScope sEnd, [], []⟩
def d53 : He.DefD := ⟨("law", none), "law", "law", defArgs sLaw, defBody sLaw, defScope sLaw, [], []⟩
def fnL : List He.DefD := [d1, d2, d3, d4, d5, d6, d7, d8, d9, d10, d11, d12, d13, d14, d15, d16, d17, d18, d19, d20, d21, d22, d23, d24, d25, d26, d27, d28, d29, d30, d31, d32, d33, d34, d35, d36, d37, d38, d39, d40, d41, d42, d43, d44, d45, d46, d47, d48, d49, d50, d51, d52, d53]
def faL : List He.Fa := ([.glo "is_word", .glo "are_words", .glo "is_size", .meth "Disk" "read", .meth "Disk" "write", .meth "Disk" "flush", .meth "Disk" "waiting", .meth "Disk" "image", .meth "Disk" "_is_sector", .meth "Disk" "_begin_operation", .meth "Disk" "_settle_writes", .meth "Space" "take", .meth "Space" "least_free", .meth "Space" "share", .meth "Space" "drop", .meth "Space" "uses", .meth "Space" "is_new", .meth "Space" "is_free", .meth "Space" "free", .meth "Space" "_count_unused", .meth "Space" "_check_exists", .meth "Space" "_check_used", .glo "read_block", .meth "Store" "use_reserve", .meth "Store" "generation", .meth "Store" "read", .meth "Store" "next_pointer", .meth "Store" "make", .meth "Store" "is_new", .meth "Store" "write"] : List He.Fa) ++ ([.meth "Store" "share", .meth "Store" "drop", .meth "Store" "uses", .meth "Store" "require", .meth "Store" "free", .meth "Store" "new_blocks", .glo "_law_tape", .glo "_law_at", .glo "_law_block", .glo "_law_is_block", .glo "_law_put_block", .glo "_law_do", .glo "_law_free", .glo "_law_due", .glo "_law_same", .glo "_law_make", .glo "_law_old", .glo "_law_end", .glo "law", .free "len", .free "range", .free "list", .free "tuple", .free "sorted", .free "isinstance", .free "abs", .free "int", .free "bool", .free "min", .free "max"] : List He.Fa) ++ ([.free "zip", .free "all", .int "BLOCK_WORDS" 32, .int "BLOCK_SECTORS" 4, .int "FIRST_BLOCK" 5, .int "ADD" 60, .int "MIN_BLOCKS" 96, .int "MAX_BLOCKS" 256, .int "SECTOR_WORDS" 8, .glo "Disk", .cls "Disk", .keep "Disk", .noat "Disk" "blocks", .noat "Disk" "_kept", .noat "Disk" "_shown", .noat "Disk" "_writes", .noat "Disk" "_powered", .noat "Disk" "_before_failure", .mkr "Disk", .glo "Space", .cls "Space", .keep "Space", .noat "Space" "blocks", .noat "Space" "_counts", .noat "Space" "_held", .mkr "Space", .glo "Head", .cls "Head", .keep "Head", .noat "Head" "generation"] : List He.Fa) ++ ([.noat "Head" "table", .noat "Head" "blocks", .mkr "Head", .glo "Store", .cls "Store", .keep "Store", .noat "Store" "disk", .noat "Store" "head", .noat "Store" "space", .noat "Store" "table", .noat "Store" "reserve", .noat "Store" "_memory", .mkr "Store", .glo "NotValid", .exc "NotValid", .glo "NoSpace", .exc "NoSpace", .glo "LaminaError", .exc "LaminaError", .glo "PowerOff", .exc "PowerOff"] : List He.Fa)
def tfL : List He.Defn := [("are_words", none)]
def exL (K : PySem.W.Frag) : Bool := (HE.dictC K "NotValid" && (HE.dictC K "NoSpace" && (HE.dictC K "LaminaError" && (HE.dictC K "PowerOff" && (HE.subC K "NoSpace" "LaminaError" true && (HE.subC K "NotValid" "LaminaError" true && (HE.subC K "NoSpace" "NoSpace" true && (HE.subC K "NotValid" "NoSpace" false && (HE.subC K "NotValid" "NotValid" true && (HE.excC K "NotValid" && (HE.excC K "NoSpace" && true)))))))))))
abbrev R : PySem.W.OpenRow := PySem.W.OpenLaw.row PySem.Challenge.rw_laminae_k23_store
abbrev hk : PySem.W.Hook := He.hookX 5 faL fnL [] tfL exL
def ob (s : PySem.W.SharedT) : He.AlX := He.obsX 5 faL fnL [] tfL exL (HandSHeadRun.getT s)
theorem ob_eq (s : PySem.W.SharedT) : ob s = hk.obs s.abs := He.obsX_eq (HandSHeadRun.getT_eq s)
def looseL : List PySem.Str := (["_wall", "LaminaError", "NotValid", "PowerOff", "NoSpace", "is_word", "are_words", "MIN_BLOCKS", "MAX_BLOCKS", "SECTOR_WORDS", "BLOCK_WORDS", "BLOCK_SECTORS", "is_size", "Disk", "read_block", "LOG_BLOCKS", "FIRST_BLOCK", "Head", "ADD", "Space", "Store", "_law_tape", "_law_at", "_law_block", "_law_is_block", "_law_put_block", "_law_do", "_law_free", "_law_due", "_law_same"] : List PySem.Str) ++ (["_law_make", "_law_old", "_law_end"] : List PySem.Str)
set_option maxHeartbeats 0 in
theorem run (w : World) : HandSHeadRun.RunEq R (PySem.W.view R.prog [40]) hk ob 4000 looseL w := by
  intro os
  kernel_rfl
theorem facts {l : PySem.W.OpenLaw} {w : World} {K : PySem.W.Frag} {h : Heap} {mg : Str → Option Value} {fa : Addr} (X : K.In h) (G : h.Ns mainGlobals mg) (hfa : mg ("law" : Str) = some (.ref fa)) (c : He.SaysX faL fnL [] tfL exL w h K) :
    ∃ (fd : FuncData) (cs : List (Addr × Addr)) (sp : Sp), (∀ p ∈ cs, h.get? p.2 = some { cls := .none, data := .fields #[] } ∧ K.lookup p.2 = none ∧ PySem.W.CodeHd h p.1 p.2) ∧ (∀ (s : Shared) (u : Value), BindsTo s fd ⟨[u], []⟩ [("script", u)]) ∧
        (∀ (H : Hp) (a : Addr) (ns : List Int), ns.length ≤ 63 → (∀ p ∈ cs, LT.Tab H p.2) → SqL K H a (ns.map V.int) → ∀ Q : VK, (∀ H', Ex H H' → Q (.bl true) H') → sp [.ref a] H Q fun _ _ _ => False) ∧
        ∀ base : Heap, K.In base → base.Ns mainGlobals mg → (∀ p ∈ cs, LamX.TabB base mg p.1 p.2) → FnOk l.prog w K mg base CX0 10 fa fd ["script"] sp := by
  have cd := c.t.d
  obtain ⟨fd1, F1⟩ := cd.def_ 0 (d := d1) rfl
  have F1 := HE.fun_of (st := K23D.sIw) F1
  have m1 := He.glo_ok X G (cd.fact 0 (f := .glo "is_word") rfl)
  have b1 := F1.binds (ps := ["value"]) fun _ _ _ _ _ _ us hl => match us, hl with | [_], _ => rfl
  obtain ⟨fd2, F2⟩ := cd.def_ 1 (d := d2) rfl
  have F2 := HE.fun_of (st := K23D.sAre) F2
  have F2 := HE.funC_of F2
  have m2 := He.glo_ok X G (cd.fact 1 (f := .glo "are_words") rfl)
  have b2 := F2.fun.binds (ps := ["values", "many"]) fun _ _ _ _ _ _ us hl => match us, hl with | [_, _], _ => rfl
  obtain ⟨fd3, F3⟩ := cd.def_ 2 (d := d3) rfl
  have F3 := HE.fun_of (st := K23D.sSize) F3
  have m3 := He.glo_ok X G (cd.fact 2 (f := .glo "is_size") rfl)
  have b3 := F3.binds (ps := ["blocks"]) fun _ _ _ _ _ _ us hl => match us, hl with | [_], _ => rfl
  obtain ⟨fd4, F4⟩ := cd.def_ 3 (d := d4) rfl
  have F4 := HE.fun_of (st := K23D.sInit) F4
  have b4 := F4.binds (ps := ["self", "blocks"]) fun _ _ _ _ _ _ us hl => match us, hl with | [_, _], _ => rfl
  obtain ⟨fd5, F5⟩ := cd.def_ 4 (d := d5) rfl
  have F5 := HE.fun_of (st := K23D.sRead) F5
  have m5 := He.meth_ok (cd.fact 3 (f := .meth "Disk" "read") rfl)
  have b5 := F5.binds (ps := ["self", "sector"]) fun _ _ _ _ _ _ us hl => match us, hl with | [_, _], _ => rfl
  obtain ⟨fd6, F6⟩ := cd.def_ 5 (d := d6) rfl
  have F6 := HE.fun_of (st := K23D.sWrite) F6
  have m6 := He.meth_ok (cd.fact 4 (f := .meth "Disk" "write") rfl)
  have b6 := F6.binds (ps := ["self", "sector", "words"]) fun _ _ _ _ _ _ us hl => match us, hl with | [_, _, _], _ => rfl
  obtain ⟨fd7, F7⟩ := cd.def_ 6 (d := d7) rfl
  have F7 := HE.fun_of (st := K23D.sFlush) F7
  have m7 := He.meth_ok (cd.fact 5 (f := .meth "Disk" "flush") rfl)
  have b7 := F7.binds (ps := ["self"]) fun _ _ _ _ _ _ us hl => match us, hl with | [_], _ => rfl
  obtain ⟨fd8, F8⟩ := cd.def_ 7 (d := d8) rfl
  have F8 := HE.fun_of (st := K23D.sWait) F8
  have m8 := He.meth_ok (cd.fact 6 (f := .meth "Disk" "waiting") rfl)
  have b8 := F8.binds (ps := ["self"]) fun _ _ _ _ _ _ us hl => match us, hl with | [_], _ => rfl
  obtain ⟨fd9, F9⟩ := cd.def_ 8 (d := d9) rfl
  have F9 := HE.fun_of (st := K23D.sImg) F9
  have m9 := He.meth_ok (cd.fact 7 (f := .meth "Disk" "image") rfl)
  have b9 := F9.binds (ps := ["self"]) fun _ _ _ _ _ _ us hl => match us, hl with | [_], _ => rfl
  obtain ⟨fd10, F10⟩ := cd.def_ 9 (d := d10) rfl
  have F10 := HE.fun_of (st := K23D.sSec) F10
  have m10 := He.meth_ok (cd.fact 8 (f := .meth "Disk" "_is_sector") rfl)
  have b10 := F10.binds (ps := ["self", "sector"]) fun _ _ _ _ _ _ us hl => match us, hl with | [_, _], _ => rfl
  obtain ⟨fd11, F11⟩ := cd.def_ 10 (d := d11) rfl
  have F11 := HE.fun_of (st := K23D.sBeg) F11
  have m11 := He.meth_ok (cd.fact 9 (f := .meth "Disk" "_begin_operation") rfl)
  have b11 := F11.binds (ps := ["self"]) fun _ _ _ _ _ _ us hl => match us, hl with | [_], _ => rfl
  obtain ⟨fd12, F12⟩ := cd.def_ 11 (d := d12) rfl
  have F12 := HE.fun_of (st := K23D.sSet) F12
  have m12 := He.meth_ok (cd.fact 10 (f := .meth "Disk" "_settle_writes") rfl)
  have b12 := F12.binds (ps := ["self", "choices"]) fun _ _ _ _ _ _ us hl => match us, hl with | [_, _], _ => rfl
  obtain ⟨fd13, F13⟩ := cd.def_ 12 (d := d13) rfl
  have F13 := HE.fun_of (st := K23S.sInit) F13
  have b13 := F13.binds (ps := ["self", "uses"]) fun _ _ _ _ _ _ us hl => match us, hl with | [_, _], _ => rfl
  obtain ⟨fd14, F14⟩ := cd.def_ 13 (d := d14) rfl
  have F14 := HE.fun_of (st := K23S.sTake) F14
  have m14 := He.meth_ok (cd.fact 11 (f := .meth "Space" "take") rfl)
  have b14 := F14.binds (ps := ["self", "reserve"]) fun _ _ _ _ _ _ us hl => match us, hl with | [_, _], _ => rfl
  obtain ⟨fd15, F15⟩ := cd.def_ 14 (d := d15) rfl
  have F15 := HE.fun_of (st := K23S.sLeast) F15
  have m15 := He.meth_ok (cd.fact 12 (f := .meth "Space" "least_free") rfl)
  have b15 := F15.binds (ps := ["self"]) fun _ _ _ _ _ _ us hl => match us, hl with | [_], _ => rfl
  obtain ⟨fd16, F16⟩ := cd.def_ 15 (d := d16) rfl
  have F16 := HE.fun_of (st := K23S.sShare) F16
  have m16 := He.meth_ok (cd.fact 13 (f := .meth "Space" "share") rfl)
  have b16 := F16.binds (ps := ["self", "block"]) fun _ _ _ _ _ _ us hl => match us, hl with | [_, _], _ => rfl
  obtain ⟨fd17, F17⟩ := cd.def_ 16 (d := d17) rfl
  have F17 := HE.fun_of (st := K23S.sDrop) F17
  have m17 := He.meth_ok (cd.fact 14 (f := .meth "Space" "drop") rfl)
  have b17 := F17.binds (ps := ["self", "block"]) fun _ _ _ _ _ _ us hl => match us, hl with | [_, _], _ => rfl
  obtain ⟨fd18, F18⟩ := cd.def_ 17 (d := d18) rfl
  have F18 := HE.fun_of (st := K23S.sUses) F18
  have m18 := He.meth_ok (cd.fact 15 (f := .meth "Space" "uses") rfl)
  have b18 := F18.binds (ps := ["self", "block"]) fun _ _ _ _ _ _ us hl => match us, hl with | [_, _], _ => rfl
  obtain ⟨fd19, F19⟩ := cd.def_ 18 (d := d19) rfl
  have F19 := HE.fun_of (st := K23S.sNew) F19
  have m19 := He.meth_ok (cd.fact 16 (f := .meth "Space" "is_new") rfl)
  have b19 := F19.binds (ps := ["self", "block"]) fun _ _ _ _ _ _ us hl => match us, hl with | [_, _], _ => rfl
  obtain ⟨fd20, F20⟩ := cd.def_ 19 (d := d20) rfl
  have F20 := HE.fun_of (st := K23S.sFree) F20
  have m20 := He.meth_ok (cd.fact 17 (f := .meth "Space" "is_free") rfl)
  have b20 := F20.binds (ps := ["self", "block"]) fun _ _ _ _ _ _ us hl => match us, hl with | [_, _], _ => rfl
  obtain ⟨fd21, F21⟩ := cd.def_ 20 (d := d21) rfl
  have F21 := HE.fun_of (st := K23S.sFr) F21
  have m21 := He.meth_ok (cd.fact 18 (f := .meth "Space" "free") rfl)
  have b21 := F21.binds (ps := ["self"]) fun _ _ _ _ _ _ us hl => match us, hl with | [_], _ => rfl
  obtain ⟨fd22, F22⟩ := cd.def_ 21 (d := d22) rfl
  have F22 := HE.fun_of (st := K23S.sCu) F22
  have m22 := He.meth_ok (cd.fact 19 (f := .meth "Space" "_count_unused") rfl)
  have b22 := F22.binds (ps := ["self", "held"]) fun _ _ _ _ _ _ us hl => match us, hl with | [_, _], _ => rfl
  obtain ⟨fd23, F23⟩ := cd.def_ 22 (d := d23) rfl
  have F23 := HE.fun_of (st := K23S.sCe) F23
  have m23 := He.meth_ok (cd.fact 20 (f := .meth "Space" "_check_exists") rfl)
  have b23 := F23.binds (ps := ["self", "block"]) fun _ _ _ _ _ _ us hl => match us, hl with | [_, _], _ => rfl
  obtain ⟨fd24, F24⟩ := cd.def_ 23 (d := d24) rfl
  have F24 := HE.fun_of (st := K23S.sCk) F24
  have m24 := He.meth_ok (cd.fact 21 (f := .meth "Space" "_check_used") rfl)
  have b24 := F24.binds (ps := ["self", "block"]) fun _ _ _ _ _ _ us hl => match us, hl with | [_, _], _ => rfl
  obtain ⟨fd25, F25⟩ := cd.def_ 24 (d := d25) rfl
  have F25 := HE.fun_of (st := sRb) F25
  have m25 := He.glo_ok X G (cd.fact 22 (f := .glo "read_block") rfl)
  have b25 := F25.binds (ps := ["disk", "number"]) fun _ _ _ _ _ _ us hl => match us, hl with | [_, _], _ => rfl
  obtain ⟨fd26, F26⟩ := cd.def_ 25 (d := d26) rfl
  have F26 := HE.fun_of (st := sHin) F26
  have b26 := F26.binds (ps := ["self", "generation", "table", "blocks"]) fun _ _ _ _ _ _ us hl => match us, hl with | [_, _, _, _], _ => rfl
  obtain ⟨fd27, F27⟩ := cd.def_ 26 (d := d27) rfl
  have F27 := HE.fun_of (st := sInit) F27
  have b27 := F27.binds (ps := ["self", "disk", "head", "space"]) fun _ _ _ _ _ _ us hl => match us, hl with | [_, _, _, _], _ => rfl
  obtain ⟨fd28, F28⟩ := cd.def_ 27 (d := d28) rfl
  have F28 := HE.fun_of (st := sUr) F28
  have m28 := He.meth_ok (cd.fact 23 (f := .meth "Store" "use_reserve") rfl)
  have b28 := F28.binds (ps := ["self", "reserve"]) fun _ _ _ _ _ _ us hl => match us, hl with | [_, _], _ => rfl
  obtain ⟨fd29, F29⟩ := cd.def_ 28 (d := d29) rfl
  have F29 := HE.fun_of (st := sGen) F29
  have m29 := He.meth_ok (cd.fact 24 (f := .meth "Store" "generation") rfl)
  have b29 := F29.binds (ps := ["self"]) fun _ _ _ _ _ _ us hl => match us, hl with | [_], _ => rfl
  obtain ⟨fd30, F30⟩ := cd.def_ 29 (d := d30) rfl
  have F30 := HE.fun_of (st := sRead) F30
  have m30 := He.meth_ok (cd.fact 25 (f := .meth "Store" "read") rfl)
  have b30 := F30.binds (ps := ["self", "pointer"]) fun _ _ _ _ _ _ us hl => match us, hl with | [_, _], _ => rfl
  obtain ⟨fd31, F31⟩ := cd.def_ 30 (d := d31) rfl
  have F31 := HE.fun_of (st := sNp) F31
  have m31 := He.meth_ok (cd.fact 26 (f := .meth "Store" "next_pointer") rfl)
  have b31 := F31.binds (ps := ["self"]) fun _ _ _ _ _ _ us hl => match us, hl with | [_], _ => rfl
  obtain ⟨fd32, F32⟩ := cd.def_ 31 (d := d32) rfl
  have F32 := HE.fun_of (st := sMake) F32
  have m32 := He.meth_ok (cd.fact 27 (f := .meth "Store" "make") rfl)
  have b32 := F32.binds (ps := ["self", "words"]) fun _ _ _ _ _ _ us hl => match us, hl with | [_, _], _ => rfl
  obtain ⟨fd33, F33⟩ := cd.def_ 32 (d := d33) rfl
  have F33 := HE.fun_of (st := sNew) F33
  have m33 := He.meth_ok (cd.fact 28 (f := .meth "Store" "is_new") rfl)
  have b33 := F33.binds (ps := ["self", "pointer"]) fun _ _ _ _ _ _ us hl => match us, hl with | [_, _], _ => rfl
  obtain ⟨fd34, F34⟩ := cd.def_ 33 (d := d34) rfl
  have F34 := HE.fun_of (st := sWrite) F34
  have m34 := He.meth_ok (cd.fact 29 (f := .meth "Store" "write") rfl)
  have b34 := F34.binds (ps := ["self", "pointer", "words"]) fun _ _ _ _ _ _ us hl => match us, hl with | [_, _, _], _ => rfl
  obtain ⟨fd35, F35⟩ := cd.def_ 34 (d := d35) rfl
  have F35 := HE.fun_of (st := sShare) F35
  have m35 := He.meth_ok (cd.fact 30 (f := .meth "Store" "share") rfl)
  have b35 := F35.binds (ps := ["self", "pointer"]) fun _ _ _ _ _ _ us hl => match us, hl with | [_, _], _ => rfl
  obtain ⟨fd36, F36⟩ := cd.def_ 35 (d := d36) rfl
  have F36 := HE.fun_of (st := sDrop) F36
  have m36 := He.meth_ok (cd.fact 31 (f := .meth "Store" "drop") rfl)
  have b36 := F36.binds (ps := ["self", "pointer"]) fun _ _ _ _ _ _ us hl => match us, hl with | [_, _], _ => rfl
  obtain ⟨fd37, F37⟩ := cd.def_ 36 (d := d37) rfl
  have F37 := HE.fun_of (st := sUses) F37
  have m37 := He.meth_ok (cd.fact 32 (f := .meth "Store" "uses") rfl)
  have b37 := F37.binds (ps := ["self", "pointer"]) fun _ _ _ _ _ _ us hl => match us, hl with | [_, _], _ => rfl
  obtain ⟨fd38, F38⟩ := cd.def_ 37 (d := d38) rfl
  have F38 := HE.fun_of (st := sReq) F38
  have m38 := He.meth_ok (cd.fact 33 (f := .meth "Store" "require") rfl)
  have b38 := F38.binds (ps := ["self", "many"]) fun _ _ _ _ _ _ us hl => match us, hl with | [_, _], _ => rfl
  obtain ⟨fd39, F39⟩ := cd.def_ 38 (d := d39) rfl
  have F39 := HE.fun_of (st := sFree) F39
  have m39 := He.meth_ok (cd.fact 34 (f := .meth "Store" "free") rfl)
  have b39 := F39.binds (ps := ["self"]) fun _ _ _ _ _ _ us hl => match us, hl with | [_], _ => rfl
  obtain ⟨fd40, F40⟩ := cd.def_ 39 (d := d40) rfl
  have F40 := HE.fun_of (st := sNb) F40
  have m40 := He.meth_ok (cd.fact 35 (f := .meth "Store" "new_blocks") rfl)
  have b40 := F40.binds (ps := ["self"]) fun _ _ _ _ _ _ us hl => match us, hl with | [_], _ => rfl
  obtain ⟨fd41, F41⟩ := cd.def_ 40 (d := d41) rfl
  have F41 := HE.fun_of (st := sTape) F41
  have m41 := He.glo_ok X G (cd.fact 36 (f := .glo "_law_tape") rfl)
  have b41 := F41.binds (ps := ["script"]) fun _ _ _ _ _ _ us hl => match us, hl with | [_], _ => rfl
  obtain ⟨fd42, F42⟩ := cd.def_ 41 (d := d42) rfl
  have F42 := HE.fun_of (st := sAt) F42
  have m42 := He.glo_ok X G (cd.fact 37 (f := .glo "_law_at") rfl)
  have b42 := F42.binds (ps := ["tape", "k"]) fun _ _ _ _ _ _ us hl => match us, hl with | [_, _], _ => rfl
  obtain ⟨fd43, F43⟩ := cd.def_ 42 (d := d43) rfl
  have F43 := HE.fun_of (st := sLb) F43
  have m43 := He.glo_ok X G (cd.fact 38 (f := .glo "_law_block") rfl)
  have b43 := F43.binds (ps := ["number", "extra"]) fun _ _ _ _ _ _ us hl => match us, hl with | [_, _], _ => rfl
  obtain ⟨fd44, F44⟩ := cd.def_ 43 (d := d44) rfl
  have F44 := HE.fun_of (st := sLib) F44
  have m44 := He.glo_ok X G (cd.fact 39 (f := .glo "_law_is_block") rfl)
  have b44 := F44.binds (ps := ["told", "due"]) fun _ _ _ _ _ _ us hl => match us, hl with | [_, _], _ => rfl
  obtain ⟨fd45, F45⟩ := cd.def_ 44 (d := d45) rfl
  have F45 := HE.fun_of (st := sLpb) F45
  have m45 := He.glo_ok X G (cd.fact 40 (f := .glo "_law_put_block") rfl)
  have b45 := F45.binds (ps := ["disk", "number", "words"]) fun _ _ _ _ _ _ us hl => match us, hl with | [_, _, _], _ => rfl
  obtain ⟨fd46, F46⟩ := cd.def_ 45 (d := d46) rfl
  have F46 := HE.fun_of (st := sDo) F46
  have m46 := He.glo_ok X G (cd.fact 41 (f := .glo "_law_do") rfl)
  have b46 := F46.binds (ps := ["store", "act", "pointer", "words"]) fun _ _ _ _ _ _ us hl => match us, hl with | [_, _, _, _], _ => rfl
  obtain ⟨fd47, F47⟩ := cd.def_ 46 (d := d47) rfl
  have F47 := HE.fun_of (st := sLfr) F47
  have m47 := He.glo_ok X G (cd.fact 42 (f := .glo "_law_free") rfl)
  have b47 := F47.binds (ps := ["numbers", "held"]) fun _ _ _ _ _ _ us hl => match us, hl with | [_, _], _ => rfl
  obtain ⟨fd48, F48⟩ := cd.def_ 47 (d := d48) rfl
  have F48 := HE.fun_of (st := sDue) F48
  have m48 := He.glo_ok X G (cd.fact 43 (f := .glo "_law_due") rfl)
  have b48 := F48.binds (ps := ["numbers", "held", "act", "number"]) fun _ _ _ _ _ _ us hl => match us, hl with | [_, _, _, _], _ => rfl
  obtain ⟨fd49, F49⟩ := cd.def_ 48 (d := d49) rfl
  have F49 := HE.fun_of (st := sSame) F49
  have m49 := He.glo_ok X G (cd.fact 44 (f := .glo "_law_same") rfl)
  have b49 := F49.binds (ps := ["told", "due"]) fun _ _ _ _ _ _ us hl => match us, hl with | [_, _], _ => rfl
  obtain ⟨fd50, F50⟩ := cd.def_ 49 (d := d50) rfl
  have F50 := HE.fun_of (st := sLmk) F50
  have m50 := He.glo_ok X G (cd.fact 45 (f := .glo "_law_make") rfl)
  have b50 := F50.binds (ps := ["store", "numbers", "held", "contents", "words", "valid", "generation"]) fun _ _ _ _ _ _ us hl => match us, hl with | [_, _, _, _, _, _, _], _ => rfl
  obtain ⟨fd51, F51⟩ := cd.def_ 50 (d := d51) rfl
  have F51 := HE.fun_of (st := sLold) F51
  have m51 := He.glo_ok X G (cd.fact 46 (f := .glo "_law_old") rfl)
  have b51 := F51.binds (ps := ["image", "number"]) fun _ _ _ _ _ _ us hl => match us, hl with | [_, _], _ => rfl
  obtain ⟨fd52, F52⟩ := cd.def_ 51 (d := d52) rfl
  have F52 := HE.fun_of (st := sEnd) F52
  have m52 := He.glo_ok X G (cd.fact 47 (f := .glo "_law_end") rfl)
  have b52 := F52.binds (ps := ["store", "numbers", "held", "contents", "image"]) fun _ _ _ _ _ _ us hl => match us, hl with | [_, _, _, _, _], _ => rfl
  obtain ⟨fd53, F53⟩ := cd.def_ 52 (d := d53) rfl
  have F53 := HE.fun_of (st := sLaw) F53
  have m53 := He.glo_ok X G (cd.fact 48 (f := .glo "law") rfl)
  have bl := HE.binds1 (y := "script") F53 fun _ _ _ _ _ _ _ => rfl
  have e := hfa.symm.trans m53
  cases e
  have clD := He.cls_ok (cd.fact 70 (f := .cls "Disk") rfl)
  have n0D := He.noat_ok (cd.fact 72 (f := .noat "Disk" "blocks") rfl)
  have n1D := He.noat_ok (cd.fact 73 (f := .noat "Disk" "_kept") rfl)
  have n2D := He.noat_ok (cd.fact 74 (f := .noat "Disk" "_shown") rfl)
  have n3D := He.noat_ok (cd.fact 75 (f := .noat "Disk" "_writes") rfl)
  have n4D := He.noat_ok (cd.fact 76 (f := .noat "Disk" "_powered") rfl)
  have n5D := He.noat_ok (cd.fact 77 (f := .noat "Disk" "_before_failure") rfl)
  have mgD := He.glo_ok X G (cd.fact 69 (f := .glo "Disk") rfl)
  have MD := He.mkr_ok (cd.fact 78 (f := .mkr "Disk") rfl)
  have clS := He.cls_ok (cd.fact 80 (f := .cls "Space") rfl)
  have n0S := He.noat_ok (cd.fact 82 (f := .noat "Space" "blocks") rfl)
  have n1S := He.noat_ok (cd.fact 83 (f := .noat "Space" "_counts") rfl)
  have n2S := He.noat_ok (cd.fact 84 (f := .noat "Space" "_held") rfl)
  have mgS := He.glo_ok X G (cd.fact 79 (f := .glo "Space") rfl)
  have MS := He.mkr_ok (cd.fact 85 (f := .mkr "Space") rfl)
  have clH := He.cls_ok (cd.fact 87 (f := .cls "Head") rfl)
  have n0H := He.noat_ok (cd.fact 89 (f := .noat "Head" "generation") rfl)
  have n1H := He.noat_ok (cd.fact 90 (f := .noat "Head" "table") rfl)
  have n2H := He.noat_ok (cd.fact 91 (f := .noat "Head" "blocks") rfl)
  have mgH := He.glo_ok X G (cd.fact 86 (f := .glo "Head") rfl)
  have MH := He.mkr_ok (cd.fact 92 (f := .mkr "Head") rfl)
  have clT := He.cls_ok (cd.fact 94 (f := .cls "Store") rfl)
  have n0T := He.noat_ok (cd.fact 96 (f := .noat "Store" "disk") rfl)
  have n1T := He.noat_ok (cd.fact 97 (f := .noat "Store" "head") rfl)
  have n2T := He.noat_ok (cd.fact 98 (f := .noat "Store" "space") rfl)
  have n3T := He.noat_ok (cd.fact 99 (f := .noat "Store" "table") rfl)
  have n4T := He.noat_ok (cd.fact 100 (f := .noat "Store" "reserve") rfl)
  have n5T := He.noat_ok (cd.fact 101 (f := .noat "Store" "_memory") rfl)
  have mgT := He.glo_ok X G (cd.fact 93 (f := .glo "Store") rfl)
  have MT := He.mkr_ok (cd.fact 102 (f := .mkr "Store") rfl)
  have ex := c.more
  unfold exL at ex
  obtain ⟨xdN, ex⟩ := He.ba ex
  obtain ⟨xdS, ex⟩ := He.ba ex
  obtain ⟨xdL, ex⟩ := He.ba ex
  obtain ⟨xdO, ex⟩ := He.ba ex
  obtain ⟨sSL, ex⟩ := He.ba ex
  obtain ⟨sNL, ex⟩ := He.ba ex
  obtain ⟨sSS, ex⟩ := He.ba ex
  obtain ⟨sNS, ex⟩ := He.ba ex
  obtain ⟨sNN, ex⟩ := He.ba ex
  obtain ⟨xfN, ex⟩ := He.ba ex
  obtain ⟨xfS, ex⟩ := He.ba ex
  have XN := HE.xc_of X G (cd.fact 103 (f := .glo "NotValid") rfl) (cd.fact 104 (f := .exc "NotValid") rfl) xdN
  have XCN := HE.excC_ok xfN
  have XS := HE.xc_of X G (cd.fact 105 (f := .glo "NoSpace") rfl) (cd.fact 106 (f := .exc "NoSpace") rfl) xdS
  have XCS := HE.excC_ok xfS
  have XL := HE.xc_of X G (cd.fact 107 (f := .glo "LaminaError") rfl) (cd.fact 108 (f := .exc "LaminaError") rfl) xdL
  have XO := HE.xc_of X G (cd.fact 109 (f := .glo "PowerOff") rfl) (cd.fact 110 (f := .exc "PowerOff") rfl) xdO
  have sSL := HE.subC_ok sSL
  have sNL := HE.subC_ok sNL
  have sSS := HE.subC_ok sSS
  have sNS := HE.subC_ok sNS
  have sNN := HE.subC_ok sNN
  have T : Txt mg := ⟨He.free_ok X G (cd.fact 49 (f := .free "len") rfl), He.free_ok X G (cd.fact 50 (f := .free "range") rfl), He.free_ok X G (cd.fact 51 (f := .free "list") rfl), He.free_ok X G (cd.fact 52 (f := .free "tuple") rfl), He.free_ok X G (cd.fact 53 (f := .free "sorted") rfl), He.free_ok X G (cd.fact 54 (f := .free "isinstance") rfl), He.free_ok X G (cd.fact 55 (f := .free "abs") rfl), He.free_ok X G (cd.fact 56 (f := .free "int") rfl), He.free_ok X G (cd.fact 57 (f := .free "bool") rfl), He.free_ok X G (cd.fact 58 (f := .free "min") rfl), He.free_ok X G (cd.fact 59 (f := .free "max") rfl), He.int_ok X G (cd.fact 62 (f := .int "BLOCK_WORDS" 32) rfl), He.int_ok X G (cd.fact 63 (f := .int "BLOCK_SECTORS" 4) rfl), He.int_ok X G (cd.fact 64 (f := .int "FIRST_BLOCK" 5) rfl), He.int_ok X G (cd.fact 65 (f := .int "ADD" 60) rfl)⟩
  have TD : K23D.Txt mg K (He.ga K "Disk") := ⟨T.len, T.range, T.list, T.isinstance, He.free_ok X G (cd.fact 60 (f := .free "zip") rfl), T.int, T.bool, He.free_ok X G (cd.fact 61 (f := .free "all") rfl), He.int_ok X G (cd.fact 66 (f := .int "MIN_BLOCKS" 96) rfl), He.int_ok X G (cd.fact 67 (f := .int "MAX_BLOCKS" 256) rfl), He.int_ok X G (cd.fact 68 (f := .int "SECTOR_WORDS" 8) rfl), T.gBLOCK_SECTORS, clD, n0D, n1D, n2D, n3D, n4D, n5D, mgD⟩
  have TS : K23S.Txt mg K (He.ga K "Space") := ⟨T.len, T.range, T.list, T.isinstance, TD.zip, T.int, T.bool, T.gFIRST_BLOCK, clS, n0S, n1S, n2S, mgS⟩
  have TT : TxT mg K (He.ga K "Store") := ⟨clT, n0T, n1T, n2T, n3T, n4T, n5T, mgT⟩
  have TH : TxH mg K (He.ga K "Head") := ⟨clH, n0H, n1H, n2H, mgH⟩
  refine ⟨fd53, [He.cT K ("are_words", none)], spLaw K (He.cT K ("are_words", none)).2, fun p hp => ?_, bl, fun H a ns hl hT hS Q q => ⟨a, ns, rfl, hS, hl, hT (He.cT K ("are_words", none)) (by simp), q⟩, fun base hKb hGb hTB => ?_⟩
  · obtain ⟨t, ht, rfl⟩ : ∃ t ∈ tfL, He.cT K t = p := by
      simp only [List.mem_cons, List.not_mem_nil, or_false] at hp
      exact ⟨_, by simp [tfL], hp.symm⟩
    exact ⟨c.empty t ht, c.out t ht, PySem.W.codeHd_of_K X (c.hd t ht)⟩
  · have B1 : LamX.TabB base mg (He.codeOf K ("are_words", none)) (He.cT K ("are_words", none)).2 := hTB (He.cT K ("are_words", none)) (by simp)
    exact (have GK23D_ok_iw := K23D.ok_iw (P := l.prog) (w := w) (base := base) F1 TD; have GK23D_ok_are := K23D.ok_are (P := l.prog) (w := w) (base := base) F2 B1 TD F1 b1 m1; have GK23D_ok_size := K23D.ok_size (P := l.prog) (w := w) (base := base) F3 F1 b1 m1 TD; have GK23D_ok_sec := K23D.ok_sec (P := l.prog) (w := w) (base := base) F10 F1 b1 m1 TD; have GK23D_ok_beg := K23D.ok_beg (P := l.prog) (w := w) (base := base) F11 TD XO; have GK23D_ok_read := K23D.ok_read (P := l.prog) (w := w) (base := base) F5 GK23D_ok_sec b10 m10 TD XO XN; have GK23D_ok_write := K23D.ok_write (P := l.prog) (w := w) (base := base) F6 GK23D_ok_sec b10 m10 F2.fun GK23D_ok_are b2 m2 GK23D_ok_beg b11 m11 TD XN; have GK23D_ok_set := K23D.ok_set (P := l.prog) (w := w) (base := base) F12 TD; have GK23D_ok_flush := K23D.ok_flush (P := l.prog) (w := w) (base := base) F7 GK23D_ok_beg b11 m11 GK23D_ok_set b12 m12 TD; have GK23D_ok_wait := K23D.ok_wait (P := l.prog) (w := w) (base := base) F8 TD; have GK23D_ok_img := K23D.ok_img (P := l.prog) (w := w) (base := base) F9 TD; have GK23D_ok_init := K23D.ok_init (P := l.prog) (w := w) (base := base) F4 F3 GK23D_ok_size b3 m3 TD XN; have GK23S_ok_iw := K23S.ok_iw (P := l.prog) (w := w) (base := base) F1 TS; have GK23S_ok_ce := K23S.ok_ce (P := l.prog) (w := w) (base := base) F23 F1 b1 m1 TS XN; have GK23S_ok_ck := K23S.ok_ck (P := l.prog) (w := w) (base := base) F24 GK23S_ok_ce b23 m23 TS XN; have GK23S_ok_uses := K23S.ok_uses (P := l.prog) (w := w) (base := base) F18 GK23S_ok_ce b23 m23 TS; have GK23S_ok_isnew := K23S.ok_isnew (P := l.prog) (w := w) (base := base) F19 GK23S_ok_uses b18 m18 TS; have GK23S_ok_isfree := K23S.ok_isfree (P := l.prog) (w := w) (base := base) F20 GK23S_ok_uses b18 m18 TS; have GK23S_ok_cu := K23S.ok_cu (P := l.prog) (w := w) (base := base) F22 TS; have GK23S_ok_free := K23S.ok_free (P := l.prog) (w := w) (base := base) F21 GK23S_ok_cu b22 m22 TS; have GK23S_ok_least := K23S.ok_least (P := l.prog) (w := w) (base := base) F15 GK23S_ok_isfree b20 m20 TS; have GK23S_ok_take := K23S.ok_take (P := l.prog) (w := w) (base := base) F14 GK23S_ok_free b21 m21 GK23S_ok_least b15 m15 TS XS; have GK23S_ok_share := K23S.ok_share (P := l.prog) (w := w) (base := base) F16 GK23S_ok_ck b24 m24 TS; have GK23S_ok_drop := K23S.ok_drop (P := l.prog) (w := w) (base := base) F17 GK23S_ok_ck b24 m24 TS; have GK23S_ok_init := K23S.ok_init (P := l.prog) (w := w) (base := base) F13 TS; have GK23_ok_rb := K23.ok_rb (P := l.prog) (w := w) (base := base) (c := ⟨He.ga K "Store", He.ga K "Head", He.ga K "Space", He.ga K "Disk"⟩) F25 GK23D_ok_read b5 m5 T TD; have GK23_ok_gen := K23.ok_gen (P := l.prog) (w := w) (base := base) (c := ⟨He.ga K "Store", He.ga K "Head", He.ga K "Space", He.ga K "Disk"⟩) F29 TT TH; have GK23_ok_free := K23.ok_free (P := l.prog) (w := w) (base := base) (c := ⟨He.ga K "Store", He.ga K "Head", He.ga K "Space", He.ga K "Disk"⟩) F39 GK23S_ok_free b21 m21 TT TS; have GK23_ok_req := K23.ok_req (P := l.prog) (w := w) (base := base) (c := ⟨He.ga K "Store", He.ga K "Head", He.ga K "Space", He.ga K "Disk"⟩) F38 GK23_ok_free b39 m39 TT XS; have GK23_ok_sread := K23.ok_sread (P := l.prog) (w := w) (base := base) (c := ⟨He.ga K "Store", He.ga K "Head", He.ga K "Space", He.ga K "Disk"⟩) F30 F1 b1 m1 F25 GK23_ok_rb b25 m25 T TT TS TD XN; have GK23_ok_np := K23.ok_np (P := l.prog) (w := w) (base := base) (c := ⟨He.ga K "Store", He.ga K "Head", He.ga K "Space", He.ga K "Disk"⟩) F31 GK23_ok_req b38 m38 GK23_ok_req b38 m38 GK23S_ok_least b15 m15 GK23_ok_gen b29 m29 TT TS; have GK23_ok_snew := K23.ok_snew (P := l.prog) (w := w) (base := base) (c := ⟨He.ga K "Store", He.ga K "Head", He.ga K "Space", He.ga K "Disk"⟩) F33 GK23S_ok_isnew b19 m19 GK23S_ok_uses b18 m18 TT TS; have GK23_ok_suses := K23.ok_suses (P := l.prog) (w := w) (base := base) (c := ⟨He.ga K "Store", He.ga K "Head", He.ga K "Space", He.ga K "Disk"⟩) F37 GK23S_ok_uses b18 m18 TT TS; have GK23_ok_ur := K23.ok_ur (P := l.prog) (w := w) (base := base) (c := ⟨He.ga K "Store", He.ga K "Head", He.ga K "Space", He.ga K "Disk"⟩) F28 TT; have GK23_ok_sshare := K23.ok_sshare (P := l.prog) (w := w) (base := base) (c := ⟨He.ga K "Store", He.ga K "Head", He.ga K "Space", He.ga K "Disk"⟩) F35 GK23S_ok_share b16 m16 TT TS; have GK23_ok_sdrop := K23.ok_sdrop (P := l.prog) (w := w) (base := base) (c := ⟨He.ga K "Store", He.ga K "Head", He.ga K "Space", He.ga K "Disk"⟩) F36 GK23S_ok_drop b17 m17 TT TS; have GK23_ok_make := K23.ok_make (P := l.prog) (w := w) (base := base) (c := ⟨He.ga K "Store", He.ga K "Head", He.ga K "Space", He.ga K "Disk"⟩) F32 F2.fun GK23D_ok_are b2 m2 GK23S_ok_take b14 m14 GK23_ok_gen b29 m29 T TT TS XN; have GK23_ok_swrite := K23.ok_swrite (P := l.prog) (w := w) (base := base) (c := ⟨He.ga K "Store", He.ga K "Head", He.ga K "Space", He.ga K "Disk"⟩) F34 F2.fun GK23D_ok_are b2 m2 GK23_ok_snew b33 m33 T TT XN; have GK23_ok_nb := K23.ok_nb (P := l.prog) (w := w) (base := base) (c := ⟨He.ga K "Store", He.ga K "Head", He.ga K "Space", He.ga K "Disk"⟩) F40 T TT; have GK23_ok_same := K23.ok_same (P := l.prog) (w := w) (base := base) F49 T; have GK23_ok_hin := K23.ok_hin (P := l.prog) (w := w) (base := base) (c := ⟨He.ga K "Store", He.ga K "Head", He.ga K "Space", He.ga K "Disk"⟩) F26 TH; have GK23_ok_tin := K23.ok_tin (P := l.prog) (w := w) (base := base) (c := ⟨He.ga K "Store", He.ga K "Head", He.ga K "Space", He.ga K "Disk"⟩) F27 T TT TH; have GK23_ok_lb := K23.ok_lb (P := l.prog) (w := w) (base := base) F43 T; have GK23_ok_lib := K23.ok_lib (P := l.prog) (w := w) (base := base) F44 T; have GK23_ok_lfr := K23.ok_lfr (P := l.prog) (w := w) (base := base) F47 T; have GK23_ok_lold := K23.ok_lold (P := l.prog) (w := w) (base := base) F51 T; have GK23_ok_lpb := K23.ok_lpb (P := l.prog) (w := w) (base := base) (c := ⟨He.ga K "Store", He.ga K "Head", He.ga K "Space", He.ga K "Disk"⟩) F45 GK23D_ok_write b6 m6 T TD; have GK23_ok_ldue := K23.ok_ldue (P := l.prog) (w := w) (base := base) F48 T; have GK23D_ok_areT := K23D.ok_areT (P := l.prog) (w := w) (base := base) F2 B1 TD F1 b1 m1; have GK23_ok_makeT := K23.ok_makeT (P := l.prog) (w := w) (base := base) (c := ⟨He.ga K "Store", He.ga K "Head", He.ga K "Space", He.ga K "Disk"⟩) F32 F2.fun GK23D_ok_areT b2 m2 GK23S_ok_take b14 m14 GK23_ok_gen b29 m29 T TT TS XN; have GK23_ok_swriteT := K23.ok_swriteT (P := l.prog) (w := w) (base := base) (c := ⟨He.ga K "Store", He.ga K "Head", He.ga K "Space", He.ga K "Disk"⟩) F34 F2.fun GK23D_ok_areT b2 m2 GK23_ok_snew b33 m33 T TT XN; have GMK := fn_or GK23_ok_make GK23_ok_makeT; have GWR := fn_or GK23_ok_swrite GK23_ok_swriteT; have GK23_ok_ldo := K23.ok_ldo (P := l.prog) (w := w) (base := base) (c := ⟨He.ga K "Store", He.ga K "Head", He.ga K "Space", He.ga K "Disk"⟩) F46 GMK b32 m32 GK23_ok_np b31 m31 GWR b34 m34 GK23_ok_sread b30 m30 GK23_ok_sshare b35 m35 GK23_ok_sdrop b36 m36 GK23_ok_snew b33 m33 GK23_ok_req b38 m38 GK23_ok_suses b37 m37 T TT XL XS XN XCS XCN sSL sNL sSS sNS sNN; have GK23_ok_lmk := K23.ok_lmk (P := l.prog) (w := w) (base := base) (c := ⟨He.ga K "Store", He.ga K "Head", He.ga K "Space", He.ga K "Disk"⟩) F50 F47 GK23_ok_lfr b47 m47 F46 GK23_ok_ldo b46 m46 T TT; have GK23_ok_lend := K23.ok_lend (P := l.prog) (w := w) (base := base) (c := ⟨He.ga K "Store", He.ga K "Head", He.ga K "Space", He.ga K "Disk"⟩) F52 F47 GK23_ok_lfr b47 m47 F46 GK23_ok_ldo b46 m46 F44 GK23_ok_lib b44 m44 GK23_ok_free b39 m39 GK23D_ok_img b9 m9 GK23D_ok_wait b8 m8 GK23_ok_nb b40 m40 GK23_ok_ur b28 m28 GK23_ok_sread b30 m30 T TT TD; K23.ok_law (P := l.prog) (w := w) (base := base) (c := ⟨He.ga K "Store", He.ga K "Head", He.ga K "Space", He.ga K "Disk"⟩) F53 F41 b41 m41 F42 b42 m42 F43 GK23_ok_lb b43 m43 F45 GK23_ok_lpb b45 m45 F52 GK23_ok_lend b52 m52 F47 GK23_ok_lfr b47 m47 F46 GK23_ok_ldo b46 m46 F48 GK23_ok_ldue b48 m48 F50 GK23_ok_lmk b50 m50 F44 GK23_ok_lib b44 m44 F51 GK23_ok_lold b51 m51 F49 GK23_ok_same b49 m49 MD GK23D_ok_init b4 MH GK23_ok_hin b26 MS GK23S_ok_init b13 MT GK23_ok_tin b27 GK23D_ok_flush b7 m7 GK23D_ok_img b9 m9 GK23_ok_gen b29 m29 GK23_ok_ur b28 m28 GK23_ok_nb b40 m40 T TT TD TS TH)
end K23
open PySem PySem.W PySem.Calls PyProof.Rows
set_option maxHeartbeats 0 in
theorem PySem.Challenge.cw_laminae_k23_store_holds : PySem.Challenge.rw_laminae_k23_store.Holds := by
  w_on; o_law
  refine HandSHeadRun.head_any (r := OpenLaw.row PySem.Challenge.rw_laminae_k23_store) (q := view (OpenLaw.row PySem.Challenge.rw_laminae_k23_store).prog [40]) (H := K23.hk) (ob := K23.ob) (M := 4000) (loose := K23.looseL) (d := HandSHeadRun.topDef (OpenLaw.row PySem.Challenge.rw_laminae_k23_store).prog 40) (kwd := []) K23.ob_eq
    (by kernel_rfl) (fun s => by kernel_rfl) K23.run (by kernel_rfl) (by kernel_rfl) (by kernel_rfl) (by rfl) (by first | assumption | decide +kernel) (by decide +kernel) ⟨rfl, rfl, rfl, rfl, rfl, by decide +kernel⟩ ?hw ?hc
  case hw => w_witness2
  case hc =>
    refine HE.walk_facts (l := PySem.Challenge.rw_laminae_k23_store) (n := 63) (k := 10) (x := "script") rfl (by decide) (by kernel_rfl) ⟨rfl, by decide, by decide⟩ ?F
    intro w mg fa h Y G hmg0
    obtain ⟨K, KX, c⟩ := Y
    have hmg : mg ("law" : PySem.Str) = some (.ref fa) := by
      have e : (HandSHeadRun.topDef (OpenLaw.row PySem.Challenge.rw_laminae_k23_store).prog 40).name = ("law" : PySem.Str) := by kernel_rfl
      rw [← e]
      exact hmg0
    obtain ⟨fd, cs, sp, h1, h2, h3, h4⟩ := K23.facts (l := PySem.Challenge.rw_laminae_k23_store) KX G hmg c
    exact ⟨K, fd, cs, sp, KX, h1, h2, h3, h4⟩

