import PyProof.Rows.All
import Wide.All
import OpenK.AllK
import Wide.FinOn
import HandS.ForMost
import HandS.Evl
import HandS.TupLe
import HandS.IsInst
import HandS.AnyAll
import HandS.EndOwn
import HandS.StrMore
import HandS.Conv
import HandS.Sort
import HandS.Star
import HandS.WordsExc
import HandS.ExcIs
import HandS.Wide
import HandS.ExcOwn
import HandS.TryOnly
import KE.GoesRaise
import HandS.HotCalls
import HandS.Walk
import PyProof.WalksPairs
import PySem.Challenge.RW_laminae_k37_paths_split
import KE.KxText
set_option Elab.async false
set_option linter.all false
set_option maxRecDepth 100000
set_option maxHeartbeats 4000000
namespace LT
open PySem PySem.Spec PyProof.Rows L2 Evl
/-! ### the table of a code object: whatever it holds -/
def TabPhi (P : Addr) (h : Heap) : Prop := ∃ ps : Array Value, h.get? P = some { cls := .none, data := .fields ps } ∧ TriplesOk ps.toList
def Tab (H : Hp) (P : Addr) : Prop := H P = some (.ext (TabPhi P))
theorem tab_stab (P : Addr) : ∀ h1 h2 : Heap, TabPhi P h1 → (∀ o, h1.get? P = some o → h2.get? P = some o) → TabPhi P h2 := fun _ _ ⟨ps, e, t⟩ k => ⟨ps, k _ e, t⟩
theorem tab_ok {p : Program} {w : World} {H : Hp} {h : Heap} {P : Addr} (t : TabPhi P h) : ObjOk p w H h P (.ext (TabPhi P)) := ⟨t, ⟨_, t.choose_spec.1⟩, tab_stab P⟩
theorem Tab.of_ok {p : Program} {w : World} {H : Hp} {h : Heap} {P : Addr} (t : Tab H P) (ok : HOk p w H h) : TabPhi P h := (ok P _ t).1
theorem Tab.mono {H H' : Hp} {P : Addr} (e : Ex H H') (t : Tab H P) : Tab H' P := e _ _ t
open Classical in
def extH (Ps : List Addr) (H : Hp) : Hp := fun b => if b ∈ Ps then some (.ext (TabPhi b)) else H b
theorem extH_in {Ps : List Addr} {H : Hp} {b : Addr} (h : b ∈ Ps) : extH Ps H b = some (.ext (TabPhi b)) := if_pos h
theorem extH_out {Ps : List Addr} {H : Hp} {b : Addr} (h : b ∉ Ps) : extH Ps H b = H b := if_neg h
/-- a promise over heaps whose tables are opaque, for a caller whose tables are all empty -/
def spExt (Ps : List Addr) (sp : Sp) : Sp := fun vs H Q E => (∀ p ∈ Ps, H p = some (.tbl #[])) ∧ sp vs (extH Ps H) (fun v H' => (∀ p ∈ Ps, Tab H' p) ∧ ∀ H2, Q v H2) E
section
variable {P : Program} {w : World} {K : PySem.W.Frag} {mg : Str → Option Value} {base : Heap}
theorem ok_ext {Ps : List Addr} {k : Nat} {f : Addr} {fd : FuncData} {ps : List Str} {sp : Sp} (F : FnOk P w K mg base CX0 k f fd ps sp) : FnOk P w K mg base CX0 k f fd ps (spExt Ps sp) := by
  refine ⟨fun vs H Q E h => F.len _ _ _ _ h.2, fun A outer s H args us vs Q E hr e0 hb hv ⟨hT, hs⟩ => ?_⟩
  have none_ : ∀ {b : Addr}, H b = none → extH Ps H b = none := fun {b} n => by
    rw [extH_out fun hb => by rw [hT b hb] at n; cases n]
    exact n
  have same : ∀ {b : Addr} {u : HO}, H b = some u → (∀ q, u ≠ .tbl q) → extH Ps H b = some u := fun {b u} e n => by
    rw [extH_out fun hb => by rw [hT b hb] at e; exact n _ (Option.some.inj e).symm]
    exact e
  have ok1 : HOk P w (extH Ps H) s.heap := fun b u e => by
    by_cases hb : b ∈ Ps
    · rw [extH_in hb] at e
      cases e
      exact tab_ok ⟨#[], e0.hok b _ (hT b hb), by simp [TriplesOk]⟩
    · rw [extH_out hb] at e
      exact (e0.hok b u e).stay (fun _ _ _ q => q) (fun c q => same q (fun z y => by cases y)) fun c xs q => same q (fun z y => by cases y)
  have e1 : Env0 P w K mg base A outer s (extH Ps H) := ⟨e0.frames, e0.mod, fun b o e => ⟨(e0.bs b o e).1, none_ (e0.bs b o e).2⟩, e0.bsz, e0.funs, fun b hb => none_ (e0.frf b hb), ok1, e0.bare⟩
  refine codeAny_mono (F.run A outer s (extH Ps H) args us vs _ E hr e1 hb hv hs) fun r s' h => ?_
  cases r with
  | error e => exact h.elim
  | ok fl =>
    cases fl with
    | next => exact h
    | brk => exact h
    | cont => exact h
    | ret u =>
      obtain ⟨v, H', os, bare, un, ok', rv, hTab, q⟩ := h
      have more : ∀ p ∈ Ps, TabPhi p s'.heap := fun p hp => (hTab p hp).of_ok ok'
      let H2 : Hp := fun b => if hb : b ∈ Ps then some (.tbl (more b hb).choose) else H' b
      have hin : ∀ {b : Addr} (hb : b ∈ Ps), H2 b = some (.tbl (more b hb).choose) := fun {b} hb => dif_pos hb
      have hout : ∀ {b : Addr}, b ∉ Ps → H2 b = H' b := fun {b} hb => dif_neg hb
      have keepH : ∀ {b : Addr} {u : HO}, H' b = some u → (∀ φ, u ≠ .ext φ) → H2 b = some u := fun {b u} e n => by
        rw [hout fun hb => by rw [hTab b hb] at e; exact n _ (Option.some.inj e).symm]
        exact e
      refine ⟨v, H2, os, bare, ⟨fun b o e n => un.keep b o e (none_ n), fun b o e n => un.slot b o e (none_ n), fun b o e n hx => ?_, un.there, fun b xs e => ?_, fun b o x e => ?_, fun b q e => ?_⟩, fun b y e => ?_, rv, q H2⟩
      · have n' := none_ n
        rw [hout fun hb => by rw [hT b hb] at n; cases n]
        exact un.free b o e n' hx
      · exact keepH (un.tups b xs (same e (fun z y => by cases y))) (fun z y => by cases y)
      · exact keepH (un.frzs b o x (same e (fun z y => by cases y))) (fun z y => by cases y)
      · by_cases hb : b ∈ Ps
        · rw [hT b hb] at e
          cases e
          exact ⟨(more b hb).choose, by rw [hin hb, Array.empty_append]⟩
        · obtain ⟨m, z⟩ := un.tbls b q (by rw [extH_out hb]; exact e)
          exact ⟨m, by rw [hout hb]; exact z⟩
      · by_cases hb : b ∈ Ps
        · rw [hin hb] at e
          cases e
          exact (more b hb).choose_spec.1
        · rw [hout hb] at e
          exact (ok' b y e).stay (fun _ _ _ q => q) (fun c q => keepH q (fun z y => by cases y)) fun c xs q => keepH q (fun z y => by cases y)
end
/-- the law's walk where top-level defs (names) hold generator expressions: their tables are empty at the start -/
theorem walk_tabs {l : PySem.W.OpenLaw} {n k : Nat} {q : Program} {loose : List Str} {XP : (Str → Option Value) → Heap → Prop} {YP : World → Heap → Prop} {d : DefRec} {K : Params → PySem.W.Frag} {x : Str} (names : List Str)
    (hn : l.most = some n) (hn2 : n ≤ sizeLine) (hdf : d.params.defaults = []) (hr : Room k callerA) (hrec : ∀ y ∈ names, ((recsOf q).find? fun e => e.name == y).isSome = true) (hY : ∀ (w : World) (h : Heap), YP w h → (K w.params).In h)
    (F : ∀ (w : World) (mg : Str → Option Value) (fa : Addr) (h : Heap), (K w.params).In h → h.Ns mainGlobals mg → mg d.name = some (.ref fa) →
      ∃ (fd : FuncData) (cs : List (Str × Addr × Addr)) (sp : Sp), (∀ p ∈ cs, p.1 ∈ names ∧ PySem.W.tabIn (K w.params) p.1 = some p.2 ∧ (K w.params).lookup p.2.2 = none) ∧ (∀ (s : Shared) (u : Value), BindsTo s fd ⟨[u], []⟩ [(x, u)]) ∧
        (∀ (H : Hp) (a : Addr) (ns : List Int), ns.length ≤ n → (∀ p ∈ cs, Tab H p.2.2) → SqL (K w.params) H a (ns.map V.int) → ∀ Q : VK, (∀ H', Ex H H' → Q (.bl true) H') → sp [.ref a] H Q fun _ _ _ => False) ∧
        ∀ base : Heap, (K w.params).In base → base.Ns mainGlobals mg → (∀ p ∈ cs, LamX.TabB base mg p.2.1 p.2.2) → FnOk l.prog w (K w.params) mg base CX0 k fa fd [x] sp) :
    PySem.W.WalkO q loose XP YP l.row.toRowW d [] (fun f vs => PySem.call f vs) := by
  refine Att.attach_callB hn hdf fun w s₀ s₁ mg mb fa o pm cd doc a vs ns G Y ho hd hcd hmg hobj hints hlen hbits hg => ?_
  have KX := hY w _ Y
  obtain ⟨fd, cs, sp, hcs, hb, hsp, hF⟩ := F w mg fa _ KX G.T.g hmg
  have two : ∀ p ∈ cs, PySem.W.CodeHd s₁.heap p.2.1 p.2.2 ∧ s₁.heap.get? p.2.2 = some { cls := .none, data := .fields #[] } := fun p hp => by
    obtain ⟨h1, h2, _⟩ := hcs p hp
    obtain ⟨e, he⟩ := Option.isSome_iff_exists.mp (hrec _ h1)
    exact PySem.W.tab_of G.T KX he h2
  have mem : ∀ y ∈ cs.map (fun p => (p.2.1, p.2.2)), ∃ p ∈ cs, p.2 = y := fun y hy => by
    obtain ⟨p, hp, e⟩ := List.mem_map.mp hy
    exact ⟨p, hp, by rw [← e]⟩
  have lim : ∀ b ∈ cs.map (fun p => p.2.2), ∃ p ∈ cs, p.2.2 = b := fun b hb => by
    obtain ⟨p, hp, e⟩ := List.mem_map.mp hb
    exact ⟨p, hp, e⟩
  refine LamX.law_callTs (cs := cs.map fun p => (p.2.1, p.2.2)) (CX := CX0) (sp := spExt (cs.map fun p => p.2.2) sp) KX G.T.g G.T.b G.T.builtins G.T.nolimit hg (fun y hy => ?_) (fun y hy => ?_) (fun y hy => ?_) G.T.bmain hobj hints (Nat.le_trans hlen hn2) hr
    (fun base h1 h2 h3 => ok_ext (hF base h1 h2 fun p hp => h3 (p.2.1, p.2.2) (List.mem_map.mpr ⟨p, hp, rfl⟩))) hb (fun H hH hS => ?_) fun H e s' z => z
  · obtain ⟨p, hp, rfl⟩ := mem y hy
    exact (two p hp).2
  · obtain ⟨p, hp, rfl⟩ := mem y hy
    exact (hcs p hp).2.2
  · obtain ⟨p, hp, rfl⟩ := mem y hy
    exact (two p hp).1
  · refine ⟨fun b hb => ?_, ?_⟩
    · obtain ⟨p, hp, rfl⟩ := lim b hb
      exact hH (p.2.1, p.2.2) (List.mem_map.mpr ⟨p, hp, rfl⟩)
    · have hnt : ∀ p ∈ cs, extH (cs.map fun p => p.2.2) H p.2.2 = some (.ext (TabPhi p.2.2)) := fun p hp => extH_in (List.mem_map.mpr ⟨p, hp, rfl⟩)
      refine hsp _ a ns hlen hnt ?_ _ fun H' e => ⟨fun b hb => ?_, fun _ => rfl⟩
      · rcases hS with (h | ⟨o, h⟩) | h
        · refine .inl (.inl ?_)
          rw [extH_out fun hb => ?_]
          · exact h
          · obtain ⟨p, hp, rfl⟩ := lim a hb
            rw [hH (p.2.1, p.2.2) (List.mem_map.mpr ⟨p, hp, rfl⟩)] at h
            cases h
        · refine .inl (.inr ⟨o, ?_⟩)
          rw [extH_out fun hb => ?_]
          · exact h
          · obtain ⟨p, hp, rfl⟩ := lim a hb
            rw [hH (p.2.1, p.2.2) (List.mem_map.mpr ⟨p, hp, rfl⟩)] at h
            cases h
        · exact .inr h
      · obtain ⟨p, hp, rfl⟩ := lim b hb
        exact e _ _ (hnt p hp)
end LT

set_option Elab.async false
set_option linter.all false
set_option maxRecDepth 100000
set_option maxHeartbeats 4000000
namespace LG
open PySem PySem.Spec PyProof.Rows L2 Evl LT
/-! ### generator expressions whose elements leave everything as it stands -/
theorem kp_tok (s : Shared) (k : Nat) : Keeps s { s with toks := k } := ⟨s.heap, k, rfl, fun _ _ e => e⟩
theorem kp_refl (s : Shared) : Keeps s s := kp_tok s s.toks
theorem kp_trans {s s1 s2 : Shared} (a : Keeps s s1) (b : Keeps s1 s2) : Keeps s s2 := by
  obtain ⟨h1, t1, rfl, k1⟩ := a
  obtain ⟨h2, t2, rfl, k2⟩ := b
  exact ⟨h2, t2, rfl, fun c o e => k2 c o (k1 c o e)⟩
theorem kp_at {s s1 : Shared} (a : Keeps s s1) : ∀ b o, s.heap.get? b = some o → s1.heap.get? b = some o := by
  obtain ⟨h1, t1, rfl, k1⟩ := a
  exact k1
def but (P : Addr) (H : Hp) : Hp := fun b => if b = P then none else H b
theorem but_ne {P b : Addr} {H : Hp} (h : b ≠ P) : but P H b = H b := if_neg h
/-- in the frame of a generator expression, at one turn: its name x holds u -/
structure Fc (X : Cx) (σ : L2.St) (H : Hp) (P : Addr) (scope : Scope) (x : Str) (u : Value) (cenv : Env) (A' : Around) (s₂ : Shared) (m₂ : Str → Option Value) : Prop where
  hd : A'.handled = none
  dp : A'.depth ≤ X.A.depth + 1
  un : A'.units ≤ X.A.units + 8
  sc : cenv.scope = scope
  gl : cenv.globals = mainGlobals
  bi : cenv.builtins = builtinsNs
  ns : s₂.heap.Ns cenv.locals m₂
  mx : m₂ x = some u
  base : ∀ b o, X.base.get? b = some o → s₂.heap.get? b = some o
  md : L2.Mod X.K X.mg X.base
  hok : HOk X.prog X.w (but P H) s₂.heap
  cap : ∀ (i : Nat) (y : Str) (v : V), X.N[i]? = some y → σ[i]? = some (some v) → (X.env.kindOf y = some .cell ∨ X.env.kindOf y = some .free) → scope.names.lookup y = some .free → ∃ r c, RelV v r ∧ cenv.cells.lookup y = some c ∧ s₂.heap.IsCell c (some r)
section
variable {X : Cx} {σ : L2.St} {H : Hp} {P : Addr} {scope : Scope} {x : Str} {u : Value} {cenv : Env} {A' : Around} {s₂ s₃ : Shared} {m₂ : Str → Option Value}
theorem Fc.keeps (F : Fc X σ H P scope x u cenv A' s₂ m₂) (k : Keeps s₂ s₃) : Fc X σ H P scope x u cenv A' s₃ m₂ :=
  have k' := kp_at k
  ⟨F.hd, F.dp, F.un, F.sc, F.gl, F.bi, (let ⟨o, es, ep, e, r⟩ := F.ns; ⟨o, es, ep, k' _ _ e, r⟩), F.mx, fun b o e => k' b o (F.base b o e), F.md, F.hok.kept k', fun i y v h1 h2 h3 h4 => by
    obtain ⟨r, c, a1, a2, o, a3, a4⟩ := F.cap i y v h1 h2 h3 h4
    exact ⟨r, c, a1, a2, o, k' _ _ a3, a4⟩⟩
theorem Fc.kin (F : Fc X σ H P scope x u cenv A' s₂ m₂) : X.K.In s₂.heap := F.md.kin.keeps F.base
theorem Fc.list (F : Fc X σ H P scope x u cenv A' s₂ m₂) (hT : Tab H P) {a : Addr} {xs : List V} (h : SqL X.K H a xs) : ∃ its : List Value, Vals xs its ∧ PlainL s₂.heap a its.toArray ∧ xs.length ≤ sizeLine := by
  have rd : ∀ {o : HO}, H a = some o → (∀ φ, o ≠ .ext φ) → but P H a = some o := fun {o} e n => by
    rw [but_ne fun z => by rw [z, hT] at e; exact n _ (Option.some.inj e).symm]
    exact e
  rcases h with (h | ⟨o, h⟩) | ⟨o, its, n, hk, hc, hd, hs, hz, r⟩
  · obtain ⟨z, its, n, r, e⟩ := F.hok a _ (rd h (fun φ z => by cases z))
    exact ⟨its, r, ⟨_, n, e, rfl, rfl, rfl⟩, z⟩
  · obtain ⟨_, z, its, n, r, e⟩ := F.hok a _ (rd h (fun φ z => by cases z))
    exact ⟨its, r, ⟨_, n, e, rfl, rfl, rfl⟩, z⟩
  · refine ⟨its.toList, r, ⟨o, n, F.kin a o hk, hc, hd, by simpa using hs⟩, ?_⟩
    have e := r.length
    simp only [Array.length_toList] at e
    omega
theorem Fc.tuple (F : Fc X σ H P scope x u cenv A' s₂ m₂) (hT : Tab H P) {a : Addr} {xs : List V} (h : SqT X.K H a xs) : ∃ its : List Value, Vals xs its ∧ IsTup s₂.heap a its.toArray ∧ xs.length ≤ sizeLine := by
  have rd : ∀ {o : HO}, H a = some o → (∀ φ, o ≠ .ext φ) → but P H a = some o := fun {o} e n => by
    rw [but_ne fun z => by rw [z, hT] at e; exact n _ (Option.some.inj e).symm]
    exact e
  rcases h with (h | ⟨o, h⟩) | ⟨o, its, n, hk, hc, hs, hz, r⟩
  · obtain ⟨z, its, r, p⟩ := F.hok a _ (rd h (fun φ z => by cases z))
    exact ⟨its, r, p, z⟩
  · obtain ⟨_, z, its, r, p⟩ := F.hok a _ (rd h (fun φ z => by cases z))
    exact ⟨its, r, p, z⟩
  · refine ⟨its.toList, r, ⟨o, F.kin a o hk, hc, n, by simpa using hs⟩, ?_⟩
    have e := r.length
    simp only [Array.length_toList] at e
    omega
end
/-- the expression has the value z there -/
def QV (X : Cx) (σ : L2.St) (H : Hp) (P : Addr) (scope : Scope) (x : Str) (u : Value) (e : Expr) (z : V) : Prop :=
  ∀ (cenv : Env) (A' : Around) (E' : Value → Shared → Prop) (s₂ : Shared) (m₂ : Str → Option Value), Fc X σ H P scope x u cenv A' s₂ m₂ → wpAny (model X.prog X.w) A' (eval e cenv) (fun y s₃ => RelV z y ∧ Keeps s₂ s₃) E' s₂
section
variable {X : Cx} {σ : L2.St} {H : Hp} {P : Addr} {scope : Scope} {x : Str} {u : Value} {a b : Expr} {za zb z : V} {pos : Pos}
theorem qv_x (hk : scope.kind = .function) (hl : scope.names.lookup x = some .local) (r : RelV z u) (hd : (x == ("__debug__" : Str)) = false := by decide) : QV X σ H P scope x u (.Name x pos) z := fun cenv A' E' s m F =>
  wpAny_Name (wpAny_loadName_local (by rw [F.sc]; exact hk) (show cenv.scope.names.lookup x = some .local by rw [F.sc]; exact hl) F.ns F.mx ⟨r, kp_refl _⟩) hd
theorem qv_cap {i : Nat} {y : Str} (hk : scope.kind = .function) (hl : scope.names.lookup y = some .free) (hN : X.N[i]? = some y) (hs : σ[i]? = some (some z)) (hv : X.env.kindOf y = some .cell ∨ X.env.kindOf y = some .free := by first | exact Or.inl rfl | exact Or.inr rfl) (hd : (y == ("__debug__" : Str)) = false := by decide) (hcd : (y == ("__classdict__" : Str)) = false := by decide) :
    QV X σ H P scope x u (.Name y pos) z := fun cenv A' E' s m F => by
  obtain ⟨r, c, h1, h2, h3⟩ := F.cap i y z hN hs hv hl
  exact wpAny_Name (wpAny_loadName_free (by rw [F.sc]; exact hk) (show cenv.scope.names.lookup y = some .free by rw [F.sc]; exact hl) h2 h3 ⟨h1, kp_refl _⟩ hcd) hd
theorem qv_glob {y : Str} {r : Value} (hk : scope.kind = .function) (hl : scope.names.lookup y = some .globalImplicit) (hm : X.mg y = some r) (h : RelV z r) (hd : (y == ("__debug__" : Str)) = false := by decide) :
    QV X σ H P scope x u (.Name y pos) z := fun cenv A' E' s m F =>
  Calls.Name_function_global (by rw [F.sc]; exact hk) (show cenv.scope.names.lookup y = some .globalImplicit by rw [F.sc]; exact hl) (Calls.loadGlobal_global (by rw [F.gl]; exact F.md.glob.keeps F.base) hm ⟨h, kp_refl _⟩) hd
theorem qv_int {i : Int} {j : Nat} : QV X σ H P scope x u (.Constant (.int i) j pos) (.int i) := fun cenv A' E' s m F => wpAny_Constant_int ⟨⟨_, rfl⟩, kp_tok _ _⟩
theorem qv_str {i : Str} {j : Nat} : QV X σ H P scope x u (.Constant (.str i) j pos) (.str i) := fun cenv A' E' s m F => Calls.Constant_str ⟨⟨_, rfl⟩, kp_tok _ _⟩
/-- an operation on two values -/
def QR (X : Cx) (σ : L2.St) (H : Hp) (P : Addr) (scope : Scope) (x : Str) (u : Value) (f : Value → Value → Sem Value) (za zb z : V) : Prop :=
  ∀ (cenv : Env) (A' : Around) (E' : Value → Shared → Prop) (s₂ : Shared) (m₂ : Str → Option Value) (v w : Value), Fc X σ H P scope x u cenv A' s₂ m₂ → RelV za v → RelV zb w → wpAny (model X.prog X.w) A' (f v w) (fun y s₃ => RelV z y ∧ Keeps s₂ s₃) E' s₂
theorem qv_two {f : Value → Value → Sem Value} (ha : QV X σ H P scope x u a za) (hb : QV X σ H P scope x u b zb) (hr : QR X σ H P scope x u f za zb z) (cenv : Env) (A' : Around) (E' : Value → Shared → Prop) (s : Shared) (m : Str → Option Value) (F : Fc X σ H P scope x u cenv A' s m) :
    wpAny (model X.prog X.w) A' (eval a cenv) (fun v s₁ => wpAny (model X.prog X.w) A' (eval b cenv) (fun w s₂ => wpAny (model X.prog X.w) A' (f v w) (fun y s₃ => RelV z y ∧ Keeps s s₃) E' s₂) E' s₁) E' s :=
  wpAny_mono (ha cenv A' E' s m F) (fun v s1 r1 => wpAny_mono (hb cenv A' E' s1 m (F.keeps r1.2)) (fun w s2 r2 => wpAny_mono (hr cenv A' E' s2 m v w ((F.keeps r1.2).keeps r2.2) r1.1 r2.1)
    (fun y s3 r3 => ⟨r3.1, kp_trans (kp_trans r1.2 r2.2) r3.2⟩) fun _ _ e => e) fun _ _ e => e) fun _ _ e => e
theorem qv_cmp {op : CmpOp} (hr : QR X σ H P scope x u (compareOp op) za zb z) (ha : QV X σ H P scope x u a za) (hb : QV X σ H P scope x u b zb) (hm : behindInMarks op b = false) : QV X σ H P scope x u (.Compare a [op] [b] pos) z := fun cenv A' E' s m F =>
  wpAny_Compare1 (qv_two ha hb hr cenv A' E' s m F) hm
theorem qv_op {op : Operator} (hr : QR X σ H P scope x u (binaryOp op) za zb z) (ha : QV X σ H P scope x u a za) (hb : QV X σ H P scope x u b zb) : QV X σ H P scope x u (.BinOp a op b pos) z := fun cenv A' E' s m F =>
  wpAny_BinOp (qv_two ha hb hr cenv A' E' s m F)
theorem qv_ix (hr : ∀ value slice, subscripted slice false = subscripted slice false → QR X σ H P scope x u (fun v w => subscriptTail value slice v w) za zb z) (ha : QV X σ H P scope x u a za) (hb : QV X σ H P scope x u b zb) : QV X σ H P scope x u (.Subscript a b pos) z := fun cenv A' E' s m F =>
  Subscript_ (qv_two ha hb (hr a b rfl) cenv A' E' s m F)
theorem qr_add {i j : Int} : QR X σ H P scope x u (binaryOp .Add) (.int i) (.int j) (.int (i + j)) := fun cenv A' E' s m v w F r1 r2 => by
  obtain ⟨t, rfl⟩ := r1
  obtain ⟨t', rfl⟩ := r2
  exact add_int ⟨⟨_, rfl⟩, kp_tok _ _⟩
theorem qr_ne_int {i j : Int} : QR X σ H P scope x u (compareOp .NotEq) (.int i) (.int j) (.bl (i != j)) := fun cenv A' E' s m v w F r1 r2 => by
  obtain ⟨t, rfl⟩ := r1
  obtain ⟨t', rfl⟩ := r2
  exact ne_int ⟨rfl, kp_refl _⟩
theorem qr_le_int {i j : Int} : QR X σ H P scope x u (compareOp .LtE) (.int i) (.int j) (.bl (decide (i ≤ j))) := fun cenv A' E' s m v w F r1 r2 => by
  obtain ⟨t, rfl⟩ := r1
  obtain ⟨t', rfl⟩ := r2
  exact le_int ⟨rfl, kp_refl _⟩
theorem qr_ne_str {i j : Str} : QR X σ H P scope x u (compareOp .NotEq) (.str i) (.str j) (.bl (i.cps.toList != j.cps.toList)) := fun cenv A' E' s m v w F r1 r2 => by
  obtain ⟨t, rfl⟩ := r1
  obtain ⟨t', rfl⟩ := r2
  exact PySem.P.ne_str ⟨rfl, kp_refl _⟩
theorem qr_in_sign {c : Nat} {j : Str} : QR X σ H P scope x u (compareOp .In) (.str ⟨#[c]⟩) (.str j) (.bl (decide (c ∈ j.cps.toList))) := fun cenv A' E' s m v w F r1 r2 => by
  obtain ⟨t, rfl⟩ := r1
  obtain ⟨t', rfl⟩ := r2
  exact PyProof.Rows.in_str ⟨(PySem.StrLaws.found_one j c).symm ▸ rfl, kp_refl _⟩
end

/-! ### what is walked -/
def SrcV (K : PySem.W.Frag) (H : Hp) (v : V) (n : Nat) (xs : Nat → V) : Prop :=
  (∃ (a : Addr) (l : List V), v = .ref a ∧ SqL K H a l ∧ n = l.length ∧ ∀ i, xs i = l.getD i .non) ∨
  (∃ z : Str, v = .str z ∧ n = z.cps.size ∧ ∀ i c, z.cps[i]? = some c → xs i = .str ⟨#[c]⟩) ∨
  (∃ (a : Addr) (lo hi : Int), v = .ref a ∧ H a = some (.rng lo hi) ∧ n = (hi - lo).toNat ∧ -(2 ^ 62) ≤ lo ∧ lo < 2 ^ 62 ∧ -(2 ^ 62) ≤ hi ∧ hi < 2 ^ 62 ∧ ∀ i : Nat, xs i = .int (lo + i))
section
variable {X : Cx} {pins : List (Addr × Obj)} {σ : L2.St} {H : Hp} {s : Shared}
theorem src_iter {v : V} {xv : Value} {n : Nat} {xs : Nat → V} {P : Addr} {Q : Value → Shared → Prop} {E : Value → Shared → Prop} (S : SrcV X.K H v n xs) (I : Inv X pins σ H s) (r : RelV v xv) (hT : Tab H P)
    (h : ∀ (o : Obj) (fp : List Addr) (Pf : Nat → Value → Prop) (St : Nat → Heap → Prop), (∀ i u, Pf i u → i < n → RelV (xs i) u) → (∀ A' : Around, A'.handled = none → Walks X.prog X.w A' s.heap.objs.size fp [s.heap.objs.size] n Pf St) →
      St 0 (s.heap.push o) → (∀ b ∈ fp, b ≤ s.heap.objs.size ∧ b ≠ P) → Q (.ref s.heap.objs.size) { s with heap := s.heap.push o }) : wpAny (model X.prog X.w) X.A (pyIter xv) Q E s := by
  have Plt : P < s.heap.objs.size := Heap.lt_size (hT.of_ok I.hok).choose_spec.1
  have szP : s.heap.objs.size ≠ P := fun z => Nat.lt_irrefl _ (z ▸ Plt : s.heap.objs.size < s.heap.objs.size)
  rcases S with ⟨a, l, rfl, hl, rfl, hx⟩ | ⟨z, rfl, rfl, hx⟩ | ⟨a, lo, hi, rfl, ha, rfl, b1, b2, b3, b4, hx⟩
  · cases r
    obtain ⟨its, rv, pl, _⟩ := I.list hl
    have hal : a < s.heap.objs.size := let ⟨_, e, _⟩ := pl.isList; Heap.lt_size e
    have naP : a ≠ P := fun e => by
      obtain ⟨ps, e1, _⟩ := hT.of_ok I.hok
      obtain ⟨o, n, e2, e3, _, e4⟩ := pl
      rw [e, e1] at e2
      cases e2
      cases e3
    refine wpAny_pyIter_list pl.isList ?_
    have hne : a ≠ s.heap.objs.size := Nat.ne_of_lt hal
    have en : its.toArray.size = l.length := by rw [List.size_toArray]; exact rv.length.symm
    refine h _ [s.heap.objs.size, a] (fun i v => its.toArray[i]? = some v) (fun i h => h.IsListIter s.heap.objs.size a i ∧ h.IsList a its.toArray) (fun i u hu hi => ?_) (fun A' hA => by rw [← en]; exact Walks.list hA _ a hne its.toArray) ⟨⟨_, Heap.get?_push_size _ rfl, rfl, rfl⟩, pl.isList.at fun o e => Heap.get?_push_of_some _ e⟩ fun b hb => ?_
    · obtain ⟨w, ew, rw'⟩ := rv.get (List.getElem?_eq_getElem hi)
      have e2 : its.toArray[i]? = some w := by simpa using ew
      rw [e2] at hu
      cases hu
      rw [hx, List.getD_eq_getElem?_getD, List.getElem?_eq_getElem hi]
      exact rw'
    · rcases List.mem_cons.mp hb with e | hb
      · rw [e]
        exact ⟨Nat.le_refl _, szP⟩
      · rw [List.mem_singleton.mp hb]
        exact ⟨Nat.le_of_lt hal, naP⟩
  · obtain ⟨t, rfl⟩ := r
    refine wpAny_pyIter_str fun o St W hst => ?_
    refine h o [s.heap.objs.size] (SignAt z) St (fun i u hu hi => ?_) W hst fun b hb => ?_
    · obtain ⟨c, t', hc, rfl⟩ := hu
      rw [hx i c hc]
      exact ⟨_, rfl⟩
    · rw [List.mem_singleton.mp hb]
      exact ⟨Nat.le_refl _, szP⟩
  · cases r
    obtain ⟨t, t1, t2, e⟩ := I.hok a _ ha
    refine wpAny_pyIter_range (a := lo) (b := hi) (c := 1) e (small_one b1 b2 b3 b4) ?_
    have en : ((Builtin.Range.rangeSize lo hi 1 : Int)) = (((hi - lo).toNat : Nat) : Int) := by
      unfold Builtin.Range.rangeSize
      simp
      omega
    refine h _ [s.heap.objs.size] (fun i v => ∃ t, v = .int (lo + i * 1) t) _ (fun i u hu hi => ?_) (fun A' hA => Walks.range hA _ lo 1 _) ?_ fun b hb => ?_
    · obtain ⟨t, rfl⟩ := hu
      rw [hx]
      exact ⟨t, by rw [Int.mul_one]⟩
    · rw [en]
      show IsRangeIter _ _ (lo + ((0 : Nat) : Int) * 1) ((((hi - lo).toNat : Nat) : Int) - ((0 : Nat) : Int)) 1
      rw [show lo + ((0 : Nat) : Int) * 1 = lo by simp, show (((hi - lo).toNat : Nat) : Int) - ((0 : Nat) : Int) = (((hi - lo).toNat : Nat) : Int) by simp]
      exact Heap.get?_push_size _ rfl
    · rw [List.mem_singleton.mp hb]
      exact ⟨Nat.le_refl _, szP⟩
end
theorem lookup_mem' {α : Type} : ∀ {l : List (Str × α)} {n : Str} {c : α}, l.lookup n = some c → (n, c) ∈ l
  | [], _, _, h => by cases h
  | (k, v) :: r, n, c, h => by
    rw [List.lookup_cons] at h
    cases hb : n == k with
    | true =>
      rw [hb] at h
      cases h
      rw [beq_iff_eq.mp hb]
      exact List.mem_cons_self
    | false =>
      rw [hb] at h
      exact List.mem_cons_of_mem _ (lookup_mem' h)
theorem walks_lt {prog : Program} {w : World} {A : Around} {I : Addr} {fp wr : List Addr} {n : Nat} {Pf : Nat → Value → Prop} {St : Nat → Heap → Prop} (W : Walks prog w A I fp wr n Pf St) : Walks prog w A I fp wr n (fun i u => i < n ∧ Pf i u) St where
  sub := W.sub
  frame := W.frame
  item := fun i s Q E hi st hQ => W.item i s Q E hi st fun v h' tk hp => hQ v h' tk ⟨hi, hp⟩
  done := W.done
  self := W.self
theorem clo_lookup {cells : List (Str × Addr)} {names : List (Str × NameKind)} {y : Str} {c : Addr} (hy : (y, NameKind.free) ∈ names) (hc : cells.lookup y = some c) : (cloFrom cells names []).lookup y = some c := by
  obtain ⟨c', h⟩ := mem_lookup (cloFrom_has (cells := cells) (acc := []) hy)
  rcases cloFrom_mem (lookup_mem' h) with z | ⟨_, z⟩
  · cases z
  · rw [h, z, hc]
    rfl
section
variable {X : Cx} {pins : List (Addr × Obj)} {σ : L2.St} {H : Hp} {s : Shared}
/-- the table has grown: nothing that is tracked changes -/
theorem inv_grown {P : Addr} {s' : Shared} (I : Inv X pins σ H s) (hT : Tab H P) (k : ∀ b o, b ≠ P → s.heap.get? b = some o → s'.heap.get? b = some o) (hP : TabPhi P s'.heap) (ho : s'.os = s.os) (hg : AllBare s'.gens) : Inv X pins σ H s' := by
  have nN : ∀ b, H b = none → b ≠ P := fun b e z => by
    rw [z, hT] at e
    cases e
  have J := I.step (h' := s'.heap) (H' := H) (g' := s'.gens) (t' := s'.toks) (d' := s'.drawn) (ch := []) (fun b hb => absurd hb (by simp)) (fun b o _ _ _ e n => k b o (nN b n) e) (fun b o _ _ _ e n => ⟨o.slots, k b o (nN b n) e⟩) (fun b o _ _ n => n)
    (fun b o _ e => by
      by_cases hb : b = P
      · rw [hb]
        exact ⟨_, hP.choose_spec.1⟩
      · exact ⟨o, k b o hb e⟩)
    (fun b xs e => e) (fun b o u e => e) (fun b ps e => ⟨#[], by rw [e]; simp⟩) (fun m ⟨ob, es, ep, e, r⟩ => ⟨ob, es, ep, k _ ob (nN _ I.free) e, r⟩)
    (fun b u e => by
      by_cases hb : b = P
      · subst hb
        rw [hT] at e
        cases e
        exact tab_ok hP
      · refine (I.hok b u e).stay (fun d v hd q => k d v ?_ q) (fun d q => q) fun d xs q => q
        rcases hd with z | z
        · rw [z]
          exact hb
        · intro e2
          rw [e2, hT] at z
          cases z) hg
  have e : ({ s with heap := s'.heap, gens := s'.gens, drawn := s'.drawn, toks := s'.toks } : Shared) = s' := by
    cases s'
    cases ho
    rfl
  rw [e] at J
  exact J
/-- the generator g, ready to be walked -/
def RdyG (X : Cx) (pins : List (Addr × Obj)) (σ : L2.St) (H : Hp) (n : Nat) (f : Nat → Bool) (g : Addr) (s5 : Shared) : Prop :=
  ∃ (fp wr : List Addr) (G : Array GenState → Array GenState → Prop) (F : Nat → Value → Prop) (St : Nat → Shared → Prop), WalksS X.prog X.w X.A.in1 g fp wr G n F St ∧ St 0 s5 ∧ TruthOf X.prog X.w X.A.in1 F f ∧ ∀ s', Moved wr G s5 s' → Inv X pins σ H s'
theorem gen_make {c P : Addr} {elt iter : Expr} {x : Str} {px gpos : Pos} {scope : Scope} {te : TE} {k : Nat} {Q' : Value → Shared → Prop} {R : Nat → (Nat → Bool) → Hp → Prop}
    (hr : Room k X.A) (TB : LamX.TabB X.base X.mg c P) (hcode : X.env.code = .ref c) (S : GxR.GenS X.env scope x) (hi : PE X iter te) (hs : ∀ v, genFold iter X.env v = pure v) (I : Inv X pins σ H s)
    (h : te σ H fun v H1 => Tab H1 P ∧ ∃ (n : Nat) (xs : Nat → V) (f : Nat → Bool), SrcV X.K H1 v n xs ∧ (∀ i u, i < n → RelV (xs i) u → QV X σ H1 P scope x u elt (.bl (f i))) ∧ R n f H1)
    (hQ : ∀ n f H1 g s5, R n f H1 → RdyG X pins σ H1 n f g s5 → Q' (.ref g) s5) :
    wpAny (model X.prog X.w) X.A (eval (.GeneratorExp elt [⟨.Name x px, iter, [], 0⟩] scope gpos) X.env) Q' X.xe s := by
  refine wpAny_GeneratorExp_walksQD hr.hd S.co (closure_ok S.free) S.cell S.dot S.loc S.kind hr.depth ?_ hs
  refine thn (hi.run pins s σ H _ I h) fun xv s1 ⟨v, H1, I1, r1, hT, n, xs, f, hsrc, hel, hR⟩ => ?_
  refine src_iter hsrc I1 r1 hT fun o fp Pf St hPf hW hst hfp => ?_
  obtain ⟨ps, hPs, ht⟩ := hT.of_ok I1.hok
  have hPlt : P < s1.heap.objs.size := Heap.lt_size hPs
  have hP2 : (s1.heap.push o).get? P = some { cls := .none, data := .fields ps } := Heap.get?_push_of_some _ hPs
  have cd : PySem.W.CodeHd (s1.heap.push o) c P := TB.code.keeps fun b u e => Heap.get?_push_of_some _ (I1.bk b u e)
  have lim2 : (s1.heap.push o).NoLimit := I1.nolimit.push o
  have hcP : cStatics ≠ P := fun e => by
    obtain ⟨_, ⟨o', es, ep, ho, hd, _⟩, _⟩ := I1.nolimit
    rw [e, hPs] at ho
    cases ho
    cases hd
  have hcl : cStatics < s1.heap.objs.size := let ⟨_, hns, _⟩ := I1.nolimit; hns.lt
  have sz2 : (s1.heap.push o).objs.size = s1.heap.objs.size + 1 := Heap.size_push ..
  have nTb : ∀ b, H1 b = none → b ≠ P := fun b e z => by
    rw [z, hT] at e
    cases e
  -- what is left once the code object is known
  have go : ∀ (code : Value) (h3 : Heap) (tk : Nat) (ps' : Array Value), Heap.ExtBut P (s1.heap.push o) h3 → (s1.heap.push o).objs.size ≤ h3.objs.size → h3.get? P = some { cls := .none, data := .fields ps' } → TriplesOk ps'.toList →
      wpAny (model X.prog X.w) X.A (builtinsFor X.env.globals X.env.builtins) (fun bi s₄ => ∃ I fp wr n₀ Pg St₀ pz F, Value.ref s1.heap.objs.size = .ref I ∧ (∀ A' : Around, A'.handled = none → Walks X.prog X.w A' I fp wr n₀ Pg St₀) ∧ St₀ 0 s₄.heap ∧ (∀ b ∈ fp, b < s₄.heap.objs.size) ∧ s₄.heap.NoLimit ∧ cStatics ∉ wr ∧
          (∀ href : Heap, (∀ b o, s₄.heap.get? b = some o → href.get? b = some o) → QuietGenD X.prog X.w (genEnv scope (cloFrom X.env.cells scope.names []) s₄.heap.objs.size code bi X.env) x [] elt (List.range s₄.heap.objs.size) wr Pg pz F href (X.A.depth + 1) (X.A.units + 8)) ∧
          (∀ a h₅ tk gs, gs.bare = true → s₄.heap.objs.size < a → h₅.objs.size = a + 1 → (∀ b o, s₄.heap.get? b = some o → h₅.get? b = some o) →
            WalksS X.prog X.w X.A.in4 a (a :: s₄.heap.objs.size :: List.range s₄.heap.objs.size) (s₄.heap.objs.size :: wr) (GenOnlyQ s₄.gens.size) (passing pz n₀ 0).length (fun j y => ∃ i, (passing pz n₀ 0)[j]? = some i ∧ F i y) (GenAt X.prog X.w X.A.in4 a s₄.gens.size s₄.heap.objs.size (List.range s₄.heap.objs.size) wr pz n₀ F) →
            GenAt X.prog X.w X.A.in4 a s₄.gens.size s₄.heap.objs.size (List.range s₄.heap.objs.size) wr pz n₀ F 0 { s₄ with gens := s₄.gens.push gs, toks := tk, heap := h₅ } →
            Q' (.ref a) { s₄ with gens := s₄.gens.push gs, toks := tk, heap := h₅ })) X.xe { s1 with heap := h3, toks := tk } := by
    intro code h3 tk ps' hx hsz hP3 ht3
    obtain ⟨bm, ob, e1, e2, e3, e4, e5, e6, e7, e8⟩ := TB.bm
    have keep3 : ∀ b u, b ≠ P → s1.heap.get? b = some u → h3.get? b = some u := fun b u hb e => hx b u hb (Heap.get?_push_of_some _ e)
    refine wpAny_builtinsFor (m := X.mg) (by rw [I1.ok.glob]; exact ((I1.mod.glob.keeps I1.bk).push o).extBut hx TB.gP) e1 e2 (keep3 _ _ e4 (I1.bk _ _ e5)) e6 e7 e8 ?_
    have hsz3 : s1.heap.objs.size < h3.objs.size := by omega
    refine ⟨s1.heap.objs.size, fp, [s1.heap.objs.size], n, fun i u => i < n ∧ Pf i u, St, fun _ => true, fun i y => y = .bool (f i), rfl, fun A' hA => walks_lt (hW A' hA), ?_, fun b hb => Nat.lt_of_le_of_lt (hfp b hb).1 hsz3, lim2.extBut hx hcP, ?_, ?_, ?_⟩
    · exact (hW X.A hr.hd).frame _ _ _ hst fun b hb u e => hx b u (hfp b hb).2 e
    · intro z
      rw [List.mem_singleton.mp z] at hcl
      exact Nat.lt_irrefl _ hcl
    · intro href hhref
      refine ⟨fun A' E' i v s₂ m₂ hA hD hU hPv hn hm hk => ?_, fun A' E' i v s₂ m₂ hA hD hU hPv hp hn hm hk => ?_⟩
      · simp only [List.forIn_nil]
        exact wpAny_pure ⟨rfl, kp_refl _⟩
      · have kept : ∀ b u, b ≠ P → s1.heap.get? b = some u → s₂.heap.get? b = some u := fun b u hb e => by
          have hlt := Heap.lt_size e
          refine hk b (List.mem_range.mpr ?_) (fun z => ?_) u (hhref b u (keep3 b u hb e))
          · show b < h3.objs.size
            exact Nat.lt_trans hlt hsz3
          · rw [List.mem_singleton.mp z] at hlt
            exact Nat.lt_irrefl _ hlt
        refine wpAny_mono (hel i v hPv.1 (hPf i v hPv.2 hPv.1) _ A' E' s₂ m₂ ⟨hA, hD, hU, rfl, I1.ok.glob, rfl, hn, hm, fun b u e => kept b u (nTb b (I1.bs b u e).2) (I1.bk b u e), I1.mod, fun b u e => ?_, fun j y w hN hσ hv hfr => ?_⟩) (fun y s3 r => ⟨r.1, r.2⟩) fun _ _ e => e
        · have hb : b ≠ P := fun z => by
            rw [z] at e
            unfold but at e
            rw [if_pos rfl] at e
            cases e
          rw [but_ne hb] at e
          refine (I1.hok b u e).stay (fun d w hd q => kept d w ?_ q) (fun d q => ?_) fun d ys q => ?_
          · rcases hd with z | z
            · rw [z]
              exact hb
            · intro e2
              rw [e2, hT] at z
              cases z
          · rw [but_ne fun e2 => by rw [e2, hT] at q; cases q]
            exact q
          · rw [but_ne fun e2 => by rw [e2, hT] at q; cases q]
            exact q
        · obtain ⟨m, hn1, hl⟩ := I1.loc
          obtain ⟨r, rv, l⟩ := hl j y w hN hσ (hv.elim (fun z => Or.inr (Or.inl z)) (fun z => Or.inr (Or.inr z)))
          rcases l with ⟨z, _⟩ | ⟨_, cc, hc, oc, he, hd⟩
          · rcases hv with z2 | z2
            · rw [z] at z2; cases z2
            · rw [z] at z2; cases z2
          · exact ⟨r, cc, rv, clo_lookup (lookup_mem' hfr) hc, oc, kept cc oc (nTb cc (I1.freeC y cc hc)) he, hd⟩
    · intro g h5 tk5 gs hgb hag hsz5 hk5 W5 hat
      simp only [GxR.passing_true, List.length_range] at W5
      refine hQ n f H1 g _ hR ⟨_, _, _, _, _, W5.in4_1, hat, fun j y sj Qj Ej hy hQj => ?_, fun s' hm => ?_⟩
      · obtain ⟨i, hij, rfl⟩ := hy
        obtain ⟨hj, ej⟩ := List.getElem?_eq_some_iff.mp hij
        rw [List.getElem_range] at ej
        subst ej
        exact wpAny_truthy_bool hQj
      · have nwr : ∀ b u, s1.heap.get? b = some u → b ∉ h3.objs.size :: [s1.heap.objs.size] := fun b u e hb => by
          have hl := Heap.lt_size e
          rcases List.mem_cons.mp hb with z | z
          · rw [z] at hl
            exact Nat.lt_irrefl _ (Nat.lt_trans hl hsz3)
          · rw [List.mem_singleton.mp z] at hl
            exact Nat.lt_irrefl _ hl
        exact inv_grown I1 hT (fun b u hb e => hm.heap b u (nwr b u e) (hk5 b u (keep3 b u hb e))) ⟨ps', hm.heap P _ (nwr P _ hPs) (hk5 P _ hP3), ht3⟩ hm.os (AllBare.movedS (I1.bare.push hgb) hm)
  refine ⟨lim2, ?_⟩
  cases hf : codeAmong gpos ps.toList with
  | some cv => exact wpAny_genexprCode_hit hcode (cd.code hP2 ht) hf (go cv (s1.heap.push o) s1.toks ps (Heap.ExtBut.refl _ _) (Nat.le_refl _) hP2 ht)
  | none =>
    refine wpAny_genexprCodeX hcode (cd.code hP2 ht) (cd.tab hP2) hf fun c' h' tk hx hge hlt hco' _ htab' _ => ?_
    obtain ⟨_, _, _, _, _, _, _, _, _, _, _, _, _, _, _, _, _, _, _, htr, _⟩ := hco'
    exact go _ h' tk _ hx (Nat.le_trans hge (Nat.le_of_lt hlt)) htab'.2 htr
/-- all(.. for x in e), any(.. for x in e) -/
def tGen (X : Cx) (P : Addr) (scope : Scope) (x : Str) (elt : Expr) (fin : Nat → (Nat → Bool) → Bool) (te : TE) : TE := fun σ H Q => te σ H fun v H1 => Tab H1 P ∧ ∃ (n : Nat) (xs : Nat → V) (f : Nat → Bool), SrcV X.K H1 v n xs ∧ (∀ i u, i < n → RelV (xs i) u → QV X σ H1 P scope x u elt (.bl (f i))) ∧ Q (.bl (fin n f)) H1
def allF (n : Nat) (f : Nat → Bool) : Bool := (List.range n).all f
def anyF (n : Nat) (f : Nat → Bool) : Bool := (List.range n).any f
theorem pe_all {c P : Addr} {elt iter : Expr} {x : Str} {px p pos gpos : Pos} {scope : Scope} {te : TE} {k : Nat} (hr : Room k X.A) (hg : Gl X "all") (hm : X.mg "all" = none) (hb : bootBuiltins "all" = some (.builtin "all")) (TB : LamX.TabB X.base X.mg c P) (hcode : X.env.code = .ref c) (S : GxR.GenS X.env scope x)
    (hi : PE X iter te) (hs : ∀ v, genFold iter X.env v = pure v)
    (he : starEach [.GeneratorExp elt [⟨.Name x px, iter, [], 0⟩] scope gpos] X.env = (false, eval (.GeneratorExp elt [⟨.Name x px, iter, [], 0⟩] scope gpos) X.env) :: starEach [] X.env := by rfl) :
    PE X (.Call (.Name "all" p) [.GeneratorExp elt [⟨.Name x px, iter, [], 0⟩] scope gpos] [] pos) (tGen X P scope x elt allF te) := by
  refine ⟨fun pins s σ H Q I h => wpAny_Call_Name_kw (ld_blt I hg hm hb (PyProof.Rows.callWith_builtin1 ?_ he (by rfl)))⟩
  rw [he]
  show wpAny _ _ (spliced ((false, eval (.GeneratorExp elt [⟨.Name x px, iter, [], 0⟩] scope gpos) X.env) :: backTo pos (starEach [] X.env))) _ _ s
  refine Calls.spliced_cons (gen_make (R := fun n f H1 => Q (.bl (allF n f)) H1) hr TB hcode S hi hs I h fun n f H1 g s5 hR ⟨fp, wr, G, F, St₁, W, hst, htr, hI⟩ => Calls.spliced_nil ?_)
  exact call_all_walkS (W.self 0 _ _ _ hst ⟨g, fp, wr, G, _, F, St₁, _, rfl, W, hst, htr, fun s' hmv => ⟨.bl _, H1, hI s' hmv, rfl, hR⟩⟩)
theorem pe_any {c P : Addr} {elt iter : Expr} {x : Str} {px p pos gpos : Pos} {scope : Scope} {te : TE} {k : Nat} (hr : Room k X.A) (hg : Gl X "any") (hm : X.mg "any" = none) (TB : LamX.TabB X.base X.mg c P) (hcode : X.env.code = .ref c) (S : GxR.GenS X.env scope x)
    (hi : PE X iter te) (hs : ∀ v, genFold iter X.env v = pure v)
    (he : starEach [.GeneratorExp elt [⟨.Name x px, iter, [], 0⟩] scope gpos] X.env = (false, eval (.GeneratorExp elt [⟨.Name x px, iter, [], 0⟩] scope gpos) X.env) :: starEach [] X.env := by rfl) :
    PE X (.Call (.Name "any" p) [.GeneratorExp elt [⟨.Name x px, iter, [], 0⟩] scope gpos] [] pos) (tGen X P scope x elt anyF te) := by
  refine ⟨fun pins s σ H Q I h => wpAny_Call_Name_kw (ld_blt I hg hm boot_any (PyProof.Rows.callWith_builtin1 ?_ he (by rfl)))⟩
  rw [he]
  show wpAny _ _ (spliced ((false, eval (.GeneratorExp elt [⟨.Name x px, iter, [], 0⟩] scope gpos) X.env) :: backTo pos (starEach [] X.env))) _ _ s
  refine Calls.spliced_cons (gen_make (R := fun n f H1 => Q (.bl (anyF n f)) H1) hr TB hcode S hi hs I h fun n f H1 g s5 hR ⟨fp, wr, G, F, St₁, W, hst, htr, hI⟩ => Calls.spliced_nil ?_)
  exact call_any_walkS (W.self 0 _ _ _ hst ⟨g, fp, wr, G, _, F, St₁, _, rfl, W, hst, htr, fun s' hmv => ⟨.bl _, H1, hI s' hmv, rfl, hR⟩⟩)
end
end LG

set_option Elab.async false
set_option linter.all false
set_option maxRecDepth 100000
set_option maxHeartbeats 4000000
namespace LS
open PySem PySem.Spec PyProof.Rows L2 Evl LT LG
/-! ### texts -/
section
variable {K : PySem.W.Frag} {σ : L2.St} {H : Hp} {ta tb tc te to : TE} {x y z v : V} {D : Ends} {tu tz : TS}
theorem rv_addS {i j : Str} (h : i.length + j.length ≤ sizeLine) : RV (fun x y H Q => ∃ i j, x = .str i ∧ y = .str j ∧ i.length + j.length ≤ sizeLine ∧ Q (.str (i ++ j)) H) (.str i) (.str j) H (.str (i ++ j)) := rv_val fun _ _ Q q => ⟨i, j, rfl, rfl, h, q⟩
theorem ev_lenS {z : Str} {ta : TE} (h : Ev ta σ H (.str z)) (hz : z.length ≤ sizeLine) : Ev (tCB (fun xs H Q => ∃ x, xs = [.str x] ∧ x.length ≤ sizeLine ∧ Q (.int x.length) H) (tCons ta tNil)) σ H (.int (z.length : Int)) := ev_cb (ea_cons h ea_nil) fun H1 _ Q q => ⟨z, rfl, hz, q H1 (Ex.refl H1)⟩
theorem ev_isi {x : V} {n : String} {t : Value} {b : Bool} (h : Ev ta σ H x) (hn : Ev tb σ H (.ty n)) (ht : ∀ H1, Ex H H1 → TyX K H1 x t) (hk : PySem.W.kitOne K t (.type n) = some b) : Ev (tCB (rIsi K) (tCons ta (tCons tb tNil))) σ H (.bl b) :=
  ev_cb (ea_cons h (ea_cons hn ea_nil)) fun H1 e Q q => ⟨x, .ty n, t, .type n, b, rfl, .ty n, ht H1 e, hk, q H1 (Ex.refl H1)⟩
/-- a < b < c over ints -/
theorem et_chain {f g : Int → Int → Bool} {i j k : Int} (ha : Ev ta σ H (.int i)) (hb : Ev tb σ H (.int j)) (hc : Ev tc σ H (.int k)) : EvT (tTest (tChain (rI0 fun i j => .bl (f i j)) (rI0 fun i j => .bl (g i j)) ta tb tc)) σ H (f i j && g j k) := fun H1 e Q q =>
  ha H1 e _ fun H2 e2 => hb H2 (e.trans e2) _ fun H3 e3 => ⟨i, j, rfl, rfl, f i j, rfl, by
    cases hf : f i j with
    | true =>
      rw [if_pos rfl]
      refine hc H3 ((e.trans e2).trans e3) _ fun H4 e4 => ⟨j, k, rfl, rfl, g j k, rfl, ?_⟩
      have := q H4 ((e2.trans e3).trans e4)
      rw [hf] at this
      exact this
    | false =>
      rw [if_neg Bool.false_ne_true]
      have := q H3 (e2.trans e3)
      rw [hf] at this
      exact ⟨false, rfl, this⟩⟩
theorem s_forS {zs : Str} {j : Nat} (h : Ev te σ H (.str zs)) (Pv : Nat → L2.St → Hp → Prop) (h0 : ∀ H1, Ex H H1 → Pv 0 σ H1)
    (hs : ∀ i c σ' H', zs.cps.toList[i]? = some c → Pv i σ' H' → tu { D with nx := Pv (i + 1), ct := Pv (i + 1), bk := D.nx } (σ'.set j (some (.str ⟨#[c]⟩))) H') (hd : ∀ σ' H', Pv zs.cps.toList.length σ' H' → D.nx σ' H') : tFor (iStr te) (gName j) tu D σ H :=
  h H (Ex.refl H) _ fun H1 e => ⟨zs, rfl, fun i m σ' H' => m + i = zs.cps.size ∧ Pv i σ' H', ⟨zs.cps.size, by omega, h0 H1 e⟩, fun i m σ' H' ⟨hm, p⟩ => by
    by_cases hi : i < zs.cps.size
    · refine .inr ⟨hi, Pv (i + 1), fun σ2 H2 p2 => ⟨m - 1, by omega, by omega, p2⟩, fun v H2 hy => ?_⟩
      obtain ⟨rfl, c, hc, rfl⟩ := hy
      exact hs i c σ' H2 (by rw [Array.getElem?_toList]; exact hc) p
    · have ei : i = zs.cps.toList.length := by
        rw [Array.length_toList]
        omega
      rw [ei] at p
      exact .inl ⟨Nat.le_of_not_lt hi, hd σ' H' p⟩⟩
theorem q_forS {zs : Str} {j : Nat} (h : Ev te σ H (.str zs)) (Pv : Nat → L2.St → Hp → Prop) (h0 : ∀ H1, Ex H H1 → Pv 0 σ H1)
    (hs : ∀ i c σ' H', zs.cps.toList[i]? = some c → Pv i σ' H' → tu { D with nx := Pv (i + 1), ct := Pv (i + 1), bk := tz D } (σ'.set j (some (.str ⟨#[c]⟩))) H') (hd : ∀ σ' H', Pv zs.cps.toList.length σ' H' → tz D σ' H') : tSeq (tFor (iStr te) (gName j) tu) tz D σ H :=
  s_forS (D := { D with nx := tz D }) h Pv h0 hs hd
theorem q_call {i : Nat} {sp : Sp} {dvs vs : List V} {E : XK} {tr : TA} (h : EvA tr σ H vs) (k : ∀ H1, Ex H H1 → sp (vs ++ dvs) H1 (fun v H2 => tz D (σ.set i (some v)) H2) E) : tSeq (tAsg (tCall sp dvs E tr) (gName i)) tz D σ H := h H (Ex.refl H) _ fun H1 e => k H1 e
/-- a call whose first argument is a new tuple -/
theorem ev_callU1 {sp : Sp} {dvs vs xs : List V} {E : XK} {tr : TA} (h : EvU ta σ H xs) (hr : EvA tr σ H vs) (hs : ∀ p H1, H1 p = some (.tup xs) → Ex H H1 → SpV sp ((.ref p :: vs) ++ dvs) H1 z) : Ev (tCall sp dvs E (tCons ta tr)) σ H z := fun H1 e Q q =>
  h H1 e _ fun p H2 hp e2 h2 => hr H2 (e.trans e2) _ fun H3 e3 => hs p H3 (e3 _ _ h2) ((e.trans e2).trans e3) H3 (Ex.refl _) Q (fun H4 e4 => q H4 ((e2.trans e3).trans e4)) E
theorem ev_index {W : WX} {a b : Str} {k : Nat} {tr : TA} (h : Ev to σ H (.str a)) (hb : EvA tr σ H [.str b]) (hk : Txt.index0 a b = some k) : Ev (tBMS K "str" (rIndexX W) to tr) σ H (.int (k : Int)) := fun H1 e Q q =>
  h H1 e _ fun H2 e2 => ⟨rfl, hb H2 (e.trans e2) _ fun H3 e3 => ⟨a, b, rfl, rfl, fun k' hk' => by
    rw [hk] at hk'
    cases hk'
    exact q H3 (e2.trans e3), fun hn => by
    rw [hk] at hn
    cases hn⟩⟩
theorem ev_find {a b : Str} (h : Ev to σ H (.str a)) (hb : Ev te σ H (.str b)) : Ev (tM1 (fun x xs H Q => ∃ a b, x = .str a ∧ xs = [.str b] ∧ Q (.int (Txt.find a b)) H) to te) σ H (.int (Txt.find a b)) := fun H1 e Q q =>
  h H1 e _ fun H2 e2 => ⟨⟨a, rfl⟩, hb H2 (e.trans e2) _ fun H3 e3 => ⟨a, b, rfl, rfl, q H3 (e2.trans e3)⟩⟩
theorem ev_slS {tl th : TO} {z : Str} {lo hi : Option Int} (h : Ev te σ H (.str z)) (h1 : EvO tl σ H lo) (h2 : EvO th σ H hi) (hz : z.length ≤ sizeLine) : Ev (tSl rSlS te tl th) σ H (.str (cutS z lo hi)) := fun H1 e Q q =>
  h H1 e _ fun H2 e2 => h1 H2 (e.trans e2) _ fun H3 e3 => h2 H3 ((e.trans e2).trans e3) _ fun H4 e4 => ⟨z, rfl, hz, q H4 ((e2.trans e3).trans e4)⟩
/-- text * int -/
def rMulS : R2 := fun x y H Q => ∃ a n, x = .str a ∧ y = .int n ∧ a.length ≤ 1000 ∧ 0 ≤ n ∧ n ≤ 1000 ∧ Q (.str (Txt.mul a n)) H
theorem rv_mulS {a : Str} {n : Int} (h1 : a.length ≤ 1000) (h2 : 0 ≤ n) (h3 : n ≤ 1000) : RV rMulS (.str a) (.int n) H (.str (Txt.mul a n)) := rv_val fun _ _ Q q => ⟨a, n, rfl, rfl, h1, h2, h3, q⟩
end
theorem mulOk {a : Str} {n : Int} (h1 : a.length ≤ 1000) (h2 : 0 ≤ n) (h3 : n ≤ 1000) : MulOk a n := by
  refine ⟨by simp; omega, fun h h' hh => ?_, fun h h' => ?_⟩
  · have p : (0 : Int) < n := by omega
    have m : (a.length : Int) * n ≤ 1000 * 1000 := Int.mul_le_mul (by omega) h3 h2 (by decide)
    have := (Int.le_ediv_iff_mul_le p).mpr (show (a.length : Int) * n ≤ 2 ^ 63 - 1 by omega)
    omega
  · have m : a.length * n.toNat ≤ 1000 * 1000 := Nat.mul_le_mul h1 (by omega)
    have z : sizeLine = 16777216 := rfl
    show decide (a.length * n.toNat > sizeLine) = false
    exact decide_eq_false (by omega)
theorem op_mul_str {X : Cx} : OpR X (binaryOp .Mult) rMulS := by
  intro pins s σ H x y v u Q I rx ry h
  obtain ⟨a, n, rfl, rfl, h1, h2, h3, q⟩ := h
  obtain ⟨t, rfl⟩ := rx
  obtain ⟨t', rfl⟩ := ry
  exact SB.mul (mulOk h1 h2 h3) fun t'' k => ⟨.str (Txt.mul a n), H, I.tok _, ⟨_, rfl⟩, q⟩
section
variable {X : Cx} {σ : L2.St} {H : Hp} {P : Addr} {scope : Scope} {x : Str} {elt : Expr} {te : TE} {fin : Nat → (Nat → Bool) → Bool}
theorem ev_gen {v : V} {n : Nat} {xs : Nat → V} {f : Nat → Bool} (h : Ev te σ H v) (hT : Tab H P) (hs : ∀ H1, Ex H H1 → SrcV X.K H1 v n xs) (he : ∀ H1, Ex H H1 → ∀ i u, i < n → RelV (xs i) u → QV X σ H1 P scope x u elt (.bl (f i))) :
    Ev (tGen X P scope x elt fin te) σ H (.bl (fin n f)) := fun H1 e Q q => h H1 e _ fun H2 e2 => ⟨hT.mono (e.trans e2), n, xs, f, hs H2 (e.trans e2), he H2 (e.trans e2), q H2 e2⟩
end
theorem allF_list {α : Type} (l : List α) (d : α) (p : α → Bool) : allF l.length (fun i => p (l.getD i d)) = l.all p := by
  unfold allF
  rw [Bool.eq_iff_iff, List.all_eq_true, List.all_eq_true]
  constructor
  · intro h y hy
    obtain ⟨i, hi, rfl⟩ := List.getElem_of_mem hy
    have q := h i (List.mem_range.mpr hi)
    rw [List.getD_eq_getElem?_getD, List.getElem?_eq_getElem hi] at q
    exact q
  · intro h i hi
    have hi' := List.mem_range.mp hi
    rw [List.getD_eq_getElem?_getD, List.getElem?_eq_getElem hi']
    exact h _ (List.getElem_mem hi')
theorem anyF_list {α : Type} (l : List α) (d : α) (p : α → Bool) : anyF l.length (fun i => p (l.getD i d)) = l.any p := by
  unfold anyF
  rw [Bool.eq_iff_iff, List.any_eq_true, List.any_eq_true]
  constructor
  · rintro ⟨i, hi, h⟩
    have hi' := List.mem_range.mp hi
    rw [List.getD_eq_getElem?_getD, List.getElem?_eq_getElem hi'] at h
    exact ⟨_, List.getElem_mem hi', h⟩
  · rintro ⟨y, hy, h⟩
    obtain ⟨i, hi, rfl⟩ := List.getElem_of_mem hy
    refine ⟨i, List.mem_range.mpr hi, ?_⟩
    rw [List.getD_eq_getElem?_getD, List.getElem?_eq_getElem hi]
    exact h
theorem src_str {K : PySem.W.Frag} {H : Hp} (z : Str) : SrcV K H (.str z) z.cps.toList.length (fun i => .str ⟨#[z.cps.toList.getD i 0]⟩) := .inr (.inl ⟨z, rfl, Array.length_toList, fun i c hc => by
  have e : z.cps.toList[i]? = some c := by rw [Array.getElem?_toList]; exact hc
  show V.str ⟨#[z.cps.toList.getD i 0]⟩ = V.str ⟨#[c]⟩
  rw [List.getD_eq_getElem?_getD, e]
  rfl⟩)
/-! ### a def whose code object is known -/
structure FunC (K : PySem.W.Frag) (x qual : Str) (st : Stmt) (f : Addr) (fd : FuncData) (c : Addr) : Prop where
  ex : ∃ (oc : Value) (od : Option Addr) (kV doc pm : Value) (an : Option Addr) (ct : Value) (osl : Array (Option Value)), fd = PySem.W.fnOf x qual (defArgs st) (defBody st) (defScope st) .none kV doc pm an (.ref c) ct ∧ K.lookup f = some ⟨oc, od, .func fd, osl⟩ ∧ PySem.W.codeIn K (.ref c) qual = true
  kp : PySem.W.keepIn K (.ref f) = true
section
variable {P : Program} {w : World} {K : PySem.W.Frag} {mg : Str → Option Value} {base : Heap}
theorem FunC.ok {x qual : Str} {st : Stmt} {f c : Addr} {fd : FuncData} {N ps : List Str} {k : Nat} {sp : Sp} (F : FunC K x qual st f fd c) (S : FnScope N ps (defScope st)) (len : ∀ vs H Q E, sp vs H Q E → vs.length = ps.length)
    (hbody : ∀ (A : Around) (outer : List Env) (s : Shared) (H : Hp) (vs : List V) (Q : VK) (E : XK), Room k (A.deeper (envOfC qual (defScope st) s.heap.objs.size f (.ref c))) → sp vs H Q E →
      ∃ t, PSs (cxOf CX0 P w K mg base N qual (defScope st) f (.ref c) A outer s H E).nox (defBody st) t ∧ t { nx := fun _ H' => Q .non H', rt := Q } (start N vs) H) : FnOk P w K mg base CX0 (k + 1) f fd ps sp := by
  obtain ⟨oc, od, kV, doc, pm, an, ct, osl, rfl, lk, hcd⟩ := F.ex
  exact fn_of lk hcd S len fun A outer s H vs Q E hr hsp => let ⟨t, h, q⟩ := hbody A outer s H vs Q E hr hsp; ⟨t, h.nox, q⟩
theorem FunC.fun {x qual : Str} {st : Stmt} {f c : Addr} {fd : FuncData} (F : FunC K x qual st f fd c) : Fun K x qual st f fd := let ⟨oc, od, kV, doc, pm, an, ct, osl, e, lk, hcd⟩ := F.ex; ⟨⟨oc, od, kV, doc, pm, an, .ref c, ct, osl, e, lk, hcd⟩, F.kp⟩
theorem tab_mk {x : Str} {f c T : Addr} {oc e : Value} {od dd : Option Addr} {osl sl : Array (Option Value)} {fd : FuncData} {vs : Array Value} (a : PySem.W.nsIn K mainGlobals x = some (some (.ref f))) (l : K.lookup f = some ⟨oc, od, .func fd, osl⟩)
    (h : K.lookup c = some ⟨e, dd, .fields vs, sl⟩) (hv : vs[11]? = some (.ref T)) (hc : fd.code = .ref c := by rfl) : PySem.W.tabIn K x = some (c, T) := by
  unfold PySem.W.tabIn
  rw [a]
  dsimp only
  rw [l]
  dsimp only
  rw [hc]
  dsimp only
  rw [h]
  dsimp only
  rw [hv]
theorem funC_mk {x qual : Str} {st : Stmt} {f c T : Addr} {oc : Value} {od an : Option Addr} {osl : Array (Option Value)} {kV doc pm cdv ct : Value} (a : PySem.W.nsIn K mainGlobals x = some (some (.ref f))) (l : K.lookup f = some ⟨oc, od, .func (PySem.W.fnOf x qual (defArgs st) (defBody st) (defScope st) .none kV doc pm an cdv ct), osl⟩)
    (cd : PySem.W.codeIn K cdv qual = true) (k : PySem.W.keepIn K (.ref f) = true) (ht : PySem.W.tabIn K x = some (c, T)) : FunC K x qual st f (PySem.W.fnOf x qual (defArgs st) (defBody st) (defScope st) .none kV doc pm an cdv ct) c := by
  have e : cdv = .ref c := by
    unfold PySem.W.tabIn at ht
    rw [a] at ht
    dsimp only at ht
    rw [l] at ht
    dsimp only [PySem.W.fnOf] at ht
    cases cdv with
    | ref c' =>
      dsimp only at ht
      split at ht
      · split at ht
        · cases ht
          rfl
        · cases ht
      · cases ht
    | _ => cases ht
  subst e
  exact ⟨⟨oc, od, kV, doc, pm, an, ct, osl, rfl, l, cd⟩, k⟩
end
end LS

set_option Elab.async false
set_option linter.all false
set_option maxRecDepth 100000
set_option maxHeartbeats 4000000
namespace LQ
open PySem PySem.Spec PyProof.Rows L2 Evl LT LG LS
/-! ### calls within the elements of a generator expression -/
section
variable {X : Cx} {σ : L2.St} {H : Hp} {P : Addr} {scope : Scope} {x : Str} {u : Value} {a b : Expr} {za zb z : V} {pos p : Pos}
theorem fc_blt {y : Str} {r : Value} {cenv : Env} {A' : Around} {E' : Value → Shared → Prop} {s : Shared} {m : Str → Option Value} {Q : Value → Shared → Prop} (F : Fc X σ H P scope x u cenv A' s m) (hk : scope.kind = .function) (hl : scope.names.lookup y = some .globalImplicit) (hm : X.mg y = none) (hv : bootBuiltins y = some r) (h : Q r s)
    (hn : y ≠ "__name__" := by decide) (hd : (y == ("__debug__" : Str)) = false := by decide) : wpAny (model X.prog X.w) A' (eval (.Name y p) cenv) Q E' s := by
  obtain ⟨mb, h1, h2⟩ := F.md.blt
  exact Calls.Name_function_global (by rw [F.sc]; exact hk) (show cenv.scope.names.lookup y = some .globalImplicit by rw [F.sc]; exact hl) (Calls.loadGlobal_builtin (by rw [F.gl]; exact F.md.glob.keeps F.base) hm (by rw [F.bi]; exact h1.keeps F.base) ((h2 y hn).trans hv) h) hd
theorem qv_blt {y : Str} {r : Value} (hk : scope.kind = .function) (hl : scope.names.lookup y = some .globalImplicit) (hm : X.mg y = none) (hv : bootBuiltins y = some r) (hz : RelV z r) (hn : y ≠ "__name__" := by decide) (hd : (y == ("__debug__" : Str)) = false := by decide) :
    QV X σ H P scope x u (.Name y p) z := fun cenv A' E' s m F => fc_blt F hk hl hm hv ⟨hz, kp_refl _⟩ hn hd
/-- a built-in function of two arguments -/
theorem qv_blt2 {y : Str} {id : String} (hk : scope.kind = .function) (hl : scope.names.lookup y = some .globalImplicit) (hm : X.mg y = none) (hv : bootBuiltins y = some (.builtin id)) (ha : QV X σ H P scope x u a za) (hb : QV X σ H P scope x u b zb) (hr : QR X σ H P scope x u (fun v w => call (.builtin id) [v, w]) za zb z)
    (he : ∀ env, starEach [a, b] env = (false, eval a env) :: starEach [b] env := by intro _; rfl) (h2 : ∀ env, starEach [b] env = [(false, eval b env)] := by intro _; rfl) (hn : y ≠ "__name__" := by decide) (hd : (y == ("__debug__" : Str)) = false := by decide) :
    QV X σ H P scope x u (.Call (.Name y p) [a, b] [] pos) z := fun cenv A' E' s m F => by
  refine wpAny_Call_Name_kw (fc_blt F hk hl hm hv ?_ hn hd)
  refine PyProof.Rows.callWith_builtin1 ?_ (he cenv) (by rw [h2 cenv]; rfl)
  rw [he cenv, h2 cenv]
  show wpAny _ _ (spliced [(false, eval a cenv), (false, eval b cenv)]) _ _ s
  refine Calls.spliced_cons (wpAny_mono (ha cenv A' E' s m F) (fun v s1 r1 => ?_) fun _ _ e => e)
  refine Calls.spliced_cons (wpAny_mono (hb cenv A' E' s1 m (F.keeps r1.2)) (fun w s2 r2 => ?_) fun _ _ e => e)
  exact Calls.spliced_nil (wpAny_mono (hr cenv A' E' s2 m v w ((F.keeps r1.2).keeps r2.2) r1.1 r2.1) (fun y s3 r3 => ⟨r3.1, kp_trans (kp_trans r1.2 r2.2) r3.2⟩) fun _ _ e => e)
/-- what isinstance asks of a value -/
theorem kit_fc {cenv : Env} {A' : Around} {s : Shared} {m : Str → Option Value} {v : Value} {t : Value} (F : Fc X σ H P scope x u cenv A' s m) (hT : Tab H P) (r : RelV z v) (ty : TyOf X.K H z t) (no : ∀ a C dx fs, H a = some (.ins C dx fs) → z ≠ .ref a) :
    ∃ Pz : Heap → Prop, PySem.W.KitX X.K v t Pz ∧ Pz s.heap ∧ v ≠ .builtin "__main__.__loader__#opaque" := by
  have rd : ∀ {a : Addr} {o : HO}, H a = some o → (∀ φ, o ≠ .ext φ) → but P H a = some o := fun {a o} e n => by
    rw [but_ne fun z => by rw [z, hT] at e; exact n _ (Option.some.inj e).symm]
    exact e
  cases ty with
  | non => cases (show v = Value.none from r); exact ⟨_, PySem.W.kitx_none, True.intro, fun z => nomatch z⟩
  | bl y => cases (show v = Value.bool y from r); exact ⟨_, PySem.W.kitx_bool, True.intro, fun z => nomatch z⟩
  | int i => obtain ⟨t, q⟩ := (show ∃ t, v = Value.int i t from r); cases q; exact ⟨_, PySem.W.kitx_int, True.intro, fun z => nomatch z⟩
  | str y => obtain ⟨t, q⟩ := (show ∃ t, v = Value.str y t from r); cases q; exact ⟨_, PySem.W.kitx_str, True.intro, fun z => nomatch z⟩
  | flt y => obtain ⟨t, q⟩ := (show ∃ t, v = Value.float y t from r); cases q; exact ⟨_, PySem.W.kitx_float, True.intro, fun z => nomatch z⟩
  | @lst a xs ea =>
    cases (show v = Value.ref a from r)
    obtain ⟨_, _, n, _, h1⟩ := (show ObjOk X.prog X.w (but P H) s.heap a (.lst xs) from F.hok a _ (rd ea (fun φ z => by cases z)))
    exact ⟨_, PySem.W.kitx_list, ⟨_, h1, rfl⟩, fun z => nomatch z⟩
  | @frz a ob xs ea =>
    cases (show v = Value.ref a from r)
    obtain ⟨_, _, _, n, _, h1⟩ := (show ObjOk X.prog X.w (but P H) s.heap a (.frz ob (.lst xs)) from F.hok a _ (rd ea (fun φ z => by cases z)))
    exact ⟨_, PySem.W.kitx_list, ⟨_, h1, rfl⟩, fun z => nomatch z⟩
  | @tup a xs ea =>
    cases (show v = Value.ref a from r)
    obtain ⟨_, _, _, o, h1, h2, _⟩ := (show ObjOk X.prog X.w (but P H) s.heap a (.tup xs) from F.hok a _ (rd ea (fun φ z => by cases z)))
    exact ⟨_, PySem.W.kitx_tuple, ⟨o, h1, h2⟩, fun z => nomatch z⟩
  | @dK a kvs ea =>
    cases (show v = Value.ref a from r)
    obtain ⟨_, _, vs, _, o, es, ep, h1, h2, _⟩ := F.hok a _ (rd ea (fun φ z => by cases z))
    exact ⟨_, PySem.W.kitx_dict, ⟨o, h1, h2.1⟩, fun z => nomatch z⟩
  | @dT a kvs ea =>
    cases (show v = Value.ref a from r)
    obtain ⟨_, _, xs, _, o, es, ep, h1, h2, _⟩ := F.hok a _ (rd ea (fun φ z => by cases z))
    exact ⟨_, PySem.W.kitx_dict, ⟨o, h1, h2.1⟩, fun z => nomatch z⟩
  | @ins a C dx fs ea cl ha hn htk hm => exact absurd rfl (no a C dx fs ea)
theorem qr_isi {T : String} {t : Value} {b : Bool} (hT : Tab H P) (ty : TyOf X.K H z t) (no : ∀ a C dx fs, H a = some (.ins C dx fs) → z ≠ .ref a) (hk : PySem.W.kitOne X.K t (.type T) = some b) : QR X σ H P scope x u (fun v w => call (.builtin "isinstance") [v, w]) z (.ty T) (.bl b) := fun cenv A' E' s m v w F r1 r2 => by
  cases (show w = Value.type T from r2)
  obtain ⟨Pz, Z, p, hx⟩ := kit_fc F hT r1 ty no
  exact PySem.W.kia_one Z F.kin p hk hx fun tk => ⟨rfl, kp_tok _ _⟩
theorem qv_is {z' : V} (h : QV X σ H P scope x u a z) (e : z = z') : QV X σ H P scope x u a z' := e ▸ h
theorem qv_not {c : Bool} (ha : QV X σ H P scope x u a (.bl c)) : QV X σ H P scope x u (.UnaryOp .Not a pos) (.bl (!c)) := fun cenv A' E' s m F => by
  refine UnaryOp_ (wpAny_mono (ha cenv A' E' s m F) (fun v s1 r1 => ?_) fun _ _ e => e)
  obtain ⟨rfl, k⟩ := r1
  exact not_of (wpAny_truthy_bool ⟨rfl, k⟩)
theorem qv_one {op : BoolOp} (ha : QV X σ H P scope x u a z) : QV X σ H P scope x u (.BoolOp op [a] pos) z := fun cenv A' E' s m F => BoolOp_one (ha cenv A' E' s m F)
theorem qv_and {rest : List Expr} {c d : Bool} (ha : QV X σ H P scope x u a (.bl c)) (hb : c = true → QV X σ H P scope x u (.BoolOp .And (b :: rest) pos) (.bl d)) : QV X σ H P scope x u (.BoolOp .And (a :: b :: rest) pos) (.bl (c && d)) := fun cenv A' E' s m F => by
  refine BoolOp_and (wpAny_mono (ha cenv A' E' s m F) (fun v s1 r1 => ?_) fun _ _ e => e)
  obtain ⟨rfl, k⟩ := r1
  refine wpAny_truthy_bool ?_
  cases c with
  | true => exact wpAny_mono (hb rfl cenv A' E' s1 m (F.keeps k)) (fun y s3 r3 => ⟨r3.1, kp_trans k r3.2⟩) fun _ _ e => e
  | false => exact ⟨rfl, k⟩
theorem qr_ge_int {i j : Int} : QR X σ H P scope x u (compareOp .GtE) (.int i) (.int j) (.bl (decide (j ≤ i))) := fun cenv A' E' s m v w F r1 r2 => by
  obtain ⟨t, rfl⟩ := r1
  obtain ⟨t', rfl⟩ := r2
  exact ge_int ⟨rfl, kp_refl _⟩
/-- an own def of one argument whose body is one return -/
theorem qv_call1 {nm pn qual : Str} {st : Stmt} {f : Addr} {fd : FuncData} {N : List Str} {e : Expr} {rp : Pos} {k : Nat} (hr : Room k X.A) (hk : scope.kind = .function) (hl : scope.names.lookup nm = some .globalImplicit) (hm : X.mg nm = some (.ref f)) (F : Fun X.K nm qual st f fd) (hbody : defBody st = [.Return (some e) rp]) (S : FnScope N [pn] (defScope st)) (hloc : (defScope st).names.lookup pn = some .local)
    (hb : Binds X.K fd [pn] []) (ha : QV X σ H P scope x u a za) (he : ∀ (A0 : Around) (v : Value), RelV za v → QV { X with A := A0 } σ H P (defScope st) pn v e z) (hs : ∀ env, starEach [a] env = (false, eval a env) :: starEach [] env := by intro _; rfl) (hd : (nm == ("__debug__" : Str)) = false := by decide) :
    QV X σ H P scope x u (.Call (.Name nm p) [a] [] pos) z := fun cenv A' E' s m Fc0 => by
  refine wpAny_Call_Name_kw (Calls.Name_function_global (by rw [Fc0.sc]; exact hk) (show cenv.scope.names.lookup nm = some .globalImplicit by rw [Fc0.sc]; exact hl) (Calls.loadGlobal_global (by rw [Fc0.gl]; exact Fc0.md.glob.keeps Fc0.base) hm ?_) hd)
  refine PySem.W.callWith_K (h₀ := X.base) Fc0.md.kin F.kp ?_ (hs cenv) (by rfl)
  rw [hs cenv]
  show wpAny _ _ (spliced ((false, eval a cenv) :: [])) _ _ s
  refine Calls.spliced_cons (wpAny_mono (ha cenv A' E' s m Fc0) (fun v s1 r1 => Calls.spliced_nil ?_) fun _ _ e => e)
  have F1 := Fc0.keeps r1.2
  refine ⟨F1.kin, ?_⟩
  obtain ⟨oc, od, kV, doc, pm, an, cdv, ct, osl, rfl, lk, hcd⟩ := F.ex
  refine wpAny_call (Att.call_fn (binds := [(pn, v)]) F1.kin (F1.md.nolimit.keeps F1.base) lk hcd (by have := hr.dp; have := Fc0.dp; omega) (hb s1 [v] F1.kin rfl) ?_ (fun s2 IC => ?_) S.co S.gen S.kind)
  · simp only [List.all_cons, List.all_nil, Bool.and_true, Bool.or_eq_true, beq_iff_eq]
    exact .inl hloc
  · obtain ⟨h2, tk2, rfl⟩ := IC.toInCall.same
    have kk : ∀ b o, s1.heap.get? b = some o → h2.get? b = some o := IC.toInCall.keep
    rw [hbody]
    have Fn : Fc { X with A := A' } σ H P (defScope st) pn v (envOfC qual (defScope st) s1.heap.objs.size f cdv) (A'.deeper (envOfC qual (defScope st) s1.heap.objs.size f cdv)) { s1 with heap := h2, toks := tk2 } _ :=
      ⟨Fc0.hd, Nat.le_refl _, by show A'.units + 3 ≤ A'.units + 8; omega, rfl, rfl, rfl, IC.toInCall.ns, by
        show bindL _ [(pn, v)] _ pn = some v
        unfold bindL
        have hkd : (envOfC qual (defScope st) s1.heap.objs.size f cdv).kindOf pn = some .local := hloc
        rw [hkd]
        simp [bindL], fun b o e => kk b o (F1.base b o e), F1.md, F1.hok.kept kk, fun i y w h1 h2 h3 h4 => absurd rfl (S.nofree (y, .free) (lookup_mem' h4))⟩
    refine wpAny_execs_cons (wpAny_Return_some (wpAny_mono (he A' v r1.1 _ _ _ _ _ Fn) (fun y s3 r3 => ⟨r3.1, kp_trans (kp_trans r1.2 ⟨h2, tk2, rfl, kk⟩) r3.2⟩) fun _ _ e => e))
end
end LQ

set_option Elab.async false
set_option linter.all false
set_option maxRecDepth 100000
set_option maxHeartbeats 4000000
namespace LX
open PySem PySem.Spec PyProof.Rows L2 Evl LT LG LS
/-! ### own exceptions without arguments -/
abbrev veTail : List Value := [.type "ValueError", .type "Exception", .type "BaseException", .type "object"]
/-- an exception class of the text: its name, what the written part says of it -/
structure Xc (K : PySem.W.Frag) (mg : Str → Option Value) (nm : Str) (C : Addr) : Prop where
  g : mg nm = some (.ref C)
  x : PySem.W.excIn K C veTail "ValueError.__new__" = true
  k : PySem.W.keepIn K (.ref C) = true
  b : PySem.W.subIn K (.ref C) (.type "BaseException") = some true
  t : PySem.W.typeIn K (.ref C) = some (.type "type")
  d : PySem.W.hasDictIn K C = true
section
variable {X : Cx} {C D : Addr} {nm : Str}
theorem pmk_own0 {p pos : Pos} (T : Xc X.K X.mg nm C) (hg : Gl X nm) (hdb : (nm == ("__debug__" : Str)) = false := by decide) : PMk X (.Call (.Name nm p) [] [] pos) (fun _ H Q => Q (.ref C) none H) := by
  intro pins s σ H Q I h
  refine wpAny_Call_Name_kw (ld_glob I hg T.g ?_ hdb)
  refine PySem.W.callWith_K0 I.kIn T.k ?_
  show wpAny _ _ (call (.ref C) []) _ _ _
  obtain ⟨_, _, _, _, _, _, _, _, _, _, _, _, _, _, _, _, _, hC, hN, hni, TT⟩ := exc_obj I.kIn T.x
  refine wpAny_call_exc_subT PySem.F.excBase_ValueError TT hC hN hni (fun h' e hm => ?_) (Nat.zero_le _)
  exact mk_of I hm (raises_own T.b T.t) h (I.hok.gone hm.new)
theorem ps_raise0 {W : WX} {p pos pos2 : Pos} (hc : X.calm = true) (T : Xc X.K X.mg nm C) (tk : Takes X W) (hg : Gl X nm) (hdb : (nm == ("__debug__" : Str)) = false := by decide) : PS X (.Raise (some (.Call (.Name nm p) [] [] pos)) none pos2) (fun _ σ H => W (.ref C) none σ H) := ps_raise hc tk (pmk_own0 T hg hdb)
/-- isinstance(e, c), e what the suite holds -/
def rIsX (K : PySem.W.Frag) (D a : Addr) (cls : Value) (d : Option Addr) : List V → Hp → VK → Prop := fun xs H Q => cls = .ref D ∧ d = none ∧ rIsE K D a xs H Q
theorem call_isX {a : Addr} {oe : Obj} {cls : Value} {d : Option Addr} {pn : List (Addr × Obj)} (C : ExcC X.K D) (hz : Zc cls d oe) (hf : ∃ vs, oe.data = .fields vs) : CallR (X.suite a ((a, oe) :: pn)) (.builtin "isinstance") (rIsX X.K D a cls d) := by
  intro pins s σ H xs us Q I r h
  obtain ⟨rfl, rfl, h⟩ := h
  exact call_isE C hz hf pins s σ H xs us Q I r h
end
section
variable {K : PySem.W.Frag} {mg : Str → Option Value} {C D : Addr} {nm : Str} {b : Bool}
theorem Xc.exm (T : Xc K mg nm C) {cls : Value} (h : PySem.W.subIn K cls (.ref C) = some b) : PySem.W.exmOne K cls (.ref C) = some b := PySem.W.exm_ref T.b T.d T.t h
theorem Xc.kit (T : Xc K mg nm C) {cls : Value} (h : PySem.W.subIn K cls (.ref C) = some b) (hn : cls = .ref C → b = true) : PySem.W.kitOne K cls (.ref C) = some b := by
  have e := T.exm h
  unfold PySem.W.exmOne at e
  rw [T.b] at e
  unfold PySem.W.kitOne
  by_cases q : cls = .ref C
  · rw [hn q, q]
    simp
  · rw [if_neg (by simpa using q)]
    simpa using e
end
/-- a try whose suite returns: what the body's calls that return do, what the suite does -/
theorem ev_isX {K : PySem.W.Frag} {D a C : Addr} {σ : L2.St} {H : Hp} {ta tb : TE} {b : Bool} (h : Ev ta σ H (.ref a)) (hn : Ev tb σ H (.ref C)) (hk : PySem.W.kitOne K (.ref D) (.ref C) = some b) : Ev (tCB (rIsX K D a (.ref D) none) (tCons ta (tCons tb tNil))) σ H (.bl b) :=
  ev_cb (ea_cons h (ea_cons hn ea_nil)) fun H1 e Q q => ⟨rfl, rfl, .ref C, .ref C, b, rfl, fun u hu => hu, hk, q H1 (Ex.refl H1)⟩
theorem pass_own {X : Cx} {E : XK} (tk : Takes X (fun cls d _ H => E cls d H)) : Passes (L2.CX X.prog X.w) X E := passes_call tk fun _ _ _ _ h => h
end LX

set_option Elab.async false
set_option linter.all false
set_option maxRecDepth 100000
set_option maxHeartbeats 4000000
/-! ### an exception that leaves from within a list comprehension -/
namespace LCX
open PySem PySem.Spec PyProof.Rows L2 Evl LT LG LS LX
theorem okXe {X : Cx} {xe' : Value → Shared → Prop} (I : X.Ok) : ({ X with xe := xe' } : Cx).Ok := ⟨I.mod, I.kind, I.glob, I.blt, I.above, I.inj, I.has, I.cab, I.hd, I.frames, I.stk, I.exf, I.bs, I.bsz, I.noex, I.exfs, I.funs, I.frf⟩
theorem invXe {X : Cx} {xe' : Value → Shared → Prop} {pins : List (Addr × Obj)} {σ : L2.St} {H : Hp} {s : Shared} (I : Inv X pins σ H s) : Inv ({ X with xe := xe' } : Cx) pins σ H s := ⟨okXe I.ok, I.os, I.bare, I.base, I.loc, I.cell, I.free, I.freeC, I.pin, I.hok, I.len⟩
/-- what a call in the block let out -/
def Fl (X : Cx) (s0 : Shared) (H0 : Hp) (scope : Scope) (cenv : Env) (fp : List Addr) (E : XK) (u : Value) (s' : Shared) : Prop := ∃ pins σ H s, Inv (X.blk s0 H0 scope cenv fp) pins σ H s ∧ CX X.prog X.w X.stack H s E u s'
/-- the block's context, with the exceptions that E lets out -/
abbrev blkX (X : Cx) (E : XK) (s : Shared) (H : Hp) (scope : Scope) (cenv : Env) (fp : List Addr) : Cx := { X.blk s H scope cenv fp with xe := Fl X s H scope cenv fp E }
theorem pass_blk {X : Cx} {E : XK} {s : Shared} {H : Hp} {scope : Scope} {cenv : Env} {fp : List Addr} : Passes (L2.CX X.prog X.w) (blkX X E s H scope cenv fp) E := fun pins σ H' s' _ _ I c => ⟨pins, σ, H', s', invXe I, c⟩
section
variable {X : Cx} {pins : List (Addr × Obj)} {σ : L2.St} {H : Hp} {s s' : Shared} {W : WX} {E : XK} {C L : Addr} {u : Value} {ce : Env} {m : Str → Option Value}
theorem funFrames_but {base h h' : Heap} (hs : ∀ b o, b ≠ C → h.get? b = some o → h'.get? b = some o) {l : List Env} (hC : C ∉ frs l) (f : h.FunFrames base l) : h'.FunFrames base l := by
  induction l with
  | nil => trivial
  | cons env l ih =>
    obtain ⟨hk, ⟨L, o, hf, hb, ho, hd⟩, hr⟩ := f
    refine ⟨hk, ⟨L, o, hf, hb, hs L o (fun z => hC (List.mem_filterMap.mpr ⟨env, List.mem_cons_self, z ▸ hf⟩)) ho, hd⟩, ih (fun z => hC ?_) hr⟩
    obtain ⟨e, he, q⟩ := List.mem_filterMap.mp z
    exact List.mem_filterMap.mpr ⟨e, List.mem_cons_of_mem _ he, q⟩
/-- out of a call in the element, the block let go: in the def's own air -/
theorem fails (hs : X.stack = X.env :: X.outer) (hf : X.env.frame = some X.env.locals) (tk : Takes X W) (hW : ∀ cls d H', E cls d H' → W cls d σ H') (hcf : ce.frame = X.env.frame) (hcL : ce.locals = C)
    (I : Inv X pins σ H s) (hn : s.heap.Ns C m) (f : FpOk X pins H C) (hCs : C ∉ frs X.stack) (c : CX X.prog X.w X.stack H s E u s') :
    notedBy (model X.prog X.w) X.A ce (CompFails (model X.prog X.w) X.A X.xe ce) u s' := by
  obtain ⟨a, B, H', cls, d, rfl, fl, hok, ub, na, os, ag, hE⟩ := c
  have hfr : X.A.frames = some (X.env :: X.outer) := by rw [I.ok.frames, hs]
  obtain ⟨oC, esC, epC, hoC, hdC, rC⟩ := id hn
  have bC : B.get? C = some oC := ub.keep C oC hoC f.1 hCs
  have hCa : C ≠ a := fun z => by
    have q := fl.2.1
    rw [← z, bC] at q; cases q
  show wpAny _ _ (noteFrame (.ref a) ce) _ _ s'
  rw [noteFrame_env _ hcf]
  rw [hs] at fl
  refine HandSPX.looks_onZ Zc.steady hfr hf fl fun h1 hh up => ?_
  have nh1 : h1.Ns C m := ⟨oC, esC, epC, hh.1 C oC bC, hdC, rC⟩
  refine ⟨m, by rw [hcL]; exact nh1, fun h2 m2 hn2 sb => ?_⟩
  rw [hcL] at hn2 sb
  -- the ground without C
  obtain ⟨B2, hB2⟩ : ∃ B2, B2 = PySem.W.hideAll B [C] := ⟨_, rfl⟩
  have b2 : ∀ b o, B2.get? b = some o → B.get? b = some o ∧ b ≠ C := fun b o e => by
    rw [hB2] at e
    refine ⟨PySem.W.of_hideAll _ e, fun z => ?_⟩
    rw [z, PySem.W.hideAll_none _ List.mem_cons_self] at e; cases e
  have b2' : ∀ b o, b ≠ C → B.get? b = some o → B2.get? b = some o := fun b o n e => by
    rw [hB2]
    exact PySem.W.hideAll_get _ e (by simpa using n)
  have none2 : ∀ b, B.get? b = none → B2.get? b = none := fun b e => by
    cases q : B2.get? b with
    | none => rfl
    | some o => rw [(b2 b o q).1] at e; cases e
  have hCs' : C ∉ frs (X.env :: X.outer) := hs ▸ hCs
  have h12 : ∀ b o, b ≠ C → h1.get? b = some o → h2.get? b = some o := fun b o n e => (sb.2 b n).trans e
  obtain ⟨k1, k2, k3, oe, vs, T, oT, ts, he, hz, hd, e1, hnT, hTe, hT, hdT, e3⟩ := hh
  have hCT : C ≠ T := fun z => by rw [← z, bC] at hnT; cases hnT
  have hh2 : HandSPX.HeldZ B2 (X.env :: X.outer) a (Zc cls d) X.env.locals h2 :=
    ⟨fun b o e => h12 b o (b2 b o e).2 (k1 b o (b2 b o e).1), none2 _ k2, funFrames_none (funFrames_but h12 hCs' k3) fun b hb => none2 b (k3.mem hb).1, oe, vs, T, oT, ts, h12 a oe hCa.symm he, hz, hd, e1, none2 _ hnT, hTe, h12 T oT hCT.symm hT, hdT, e3⟩
  · unfold PySem.passOn
    refine wpAny_bind (wpAny_field (h12 a oe hCa.symm he) hd e1 ?_)
    rw [if_neg (show ¬ ((Value.ref T == Value.none) = true) from by simp)]
    rw [hcf, hf]
    refine wpAny_bind (HandSPX.setFlight_onZ hh2 fun h3 hh3 up3 => wpAny_throw ?_)
    -- a state without the exception and without C's new content
    obtain ⟨G, g1, g2⟩ := restrict h3 fun b => (B2.get? b).isSome || decide (b ∈ frs X.stack)
    have st : B2.StaysIn h3 := hh3.1
    have gB : ∀ b o, B2.get? b = some o → G.get? b = some o := fun b o e => by
      rw [g1 b (by simp [e])]
      exact st b o e
    have gF : ∀ b, b ∈ frs X.stack → G.get? b = h3.get? b := fun b hb => g1 b (by simp [hb])
    have og : ∀ b o, G.get? b = some o → h3.get? b = some o ∧ ((B2.get? b).isSome = true ∨ b ∈ frs X.stack) := fun b o e => by
      cases q : ((B2.get? b).isSome || decide (b ∈ frs X.stack)) with
      | false => rw [g2 b q] at e; cases e
      | true =>
        rw [g1 b q] at e
        exact ⟨e, by simpa [Bool.or_eq_true] using q⟩
    have slots : ∀ b ∈ frs X.stack, ∀ o, s.heap.get? b = some o → ∃ sl, h3.get? b = some { o with slots := sl } := fun b hb o e => by
      obtain ⟨_, o₀, e₀, hnf⟩ := I.stack.mem hb
      rw [e] at e₀; cases e₀
      obtain ⟨sl, q⟩ := ub.slot b o e hb
      obtain ⟨sl1, q1⟩ := up b _ q hnf
      have q2 := h12 b _ (fun z => hCs (z ▸ hb)) q1
      obtain ⟨sl3, q3⟩ := up3 b _ q2 hnf
      exact ⟨sl3, q3⟩
    have hok2 : HOk X.prog X.w H' B2 := fun b o q => (hok b o q).stay (fun c v hc r => b2' c v (fun z => by
      have q0 := ub.free C oC hoC f.1
      rcases hc with hc | hc
      · rw [← hc, z, q0] at q; cases q
      · rw [z, q0] at hc; cases hc) r) (fun _ r => r) fun _ _ r => r
    refine tk _ _ ⟨a, B2, { s with heap := G, gens := s'.gens, drawn := s'.drawn, toks := s'.toks }, pins, σ, H', cls, d, rfl, ?_, fun b o e hb => ?_, Heap.UpToSlots.of_keeps fun b o e => (og b o e).1, .inr (.inr (hs ▸ hh3)), na, os, ag, hW _ _ _ hE⟩
    · refine I.call (ch := [C]) ⟨fun b o e n hb hc => gB b o (b2' b o (fun z => hc (by simp [z])) (ub.keep b o e n hb)), fun b o e n hb _ => ?_, fun b o e n _ => ub.free b o e n, fun b o e hc => ?_, ub.tups, ub.frzs, ub.tbls⟩ (hok2.kept gB) ag fun b hb => ?_
      · obtain ⟨sl, q⟩ := slots b hb o e
        exact ⟨sl, (gF b hb).trans q⟩
      · by_cases hb : b ∈ frs X.stack
        · obtain ⟨sl, q⟩ := slots b hb o e
          exact ⟨_, (gF b hb).trans q⟩
        · obtain ⟨o', q⟩ := ub.there b o e hb
          exact ⟨o', gB b o' (b2' b o' (fun z => hc (by simp [z])) q)⟩
      · have e : b = C := by simpa using hb
        subst e
        exact ⟨f.2.2.2.1, f.2.1, f.2.2.2.2.1, f.2.2.2.2.2⟩
    · obtain ⟨e', h⟩ := og b o e
      rcases h with h | h
      · obtain ⟨o', q⟩ := Option.isSome_iff_exists.mp h
        have z := st b o' q
        rw [e'] at z; cases z
        exact q
      · exact absurd h hb
end
end LCX
namespace LCX
open PySem PySem.Spec PyProof.Rows L2 Evl LT LG LS LX
section
variable {X : Cx}
/-- lc_core, the element a thing that may let an exception out; no tests -/
theorem coreX {pins : List (Addr × Obj)} {s : Shared} {σ : L2.St} {H : Hp} {Q : VK} {elt tg iter : Expr} {scope : Scope} {own : List (Str × Nat)} {pos pos' : Pos} {wi : TI} {g : TG} {te : TE} {use : Option (Value → Sem Unit)} {Qf : Value → Shared → Prop} {E : XK}
    (hc : X.calm = true) (hN : X.N.Nodup) (hst : X.stack = X.env :: X.outer) (hfr : X.env.frame = some X.env.locals) (tk : Takes X (fun cls d _ H => E cls d H)) (I : Inv X pins σ H s) (hi : PI X tg iter wi) (ok : BlkOk X.N X.env.scope scope own)
    (hg : ∀ (s : Shared) (H : Hp) (C : Addr) (cl : List (Str × Addr)) (fp : List Addr), PG (X.blk s H scope (compEnvC scope cl C X.env) fp) tg g)
    (he : ∀ (s : Shared) (H : Hp) (C : Addr) (cl : List (Str × Addr)) (fp : List Addr), PE (blkX X E s H scope (compEnvC scope cl C X.env) fp) elt te) (hs : ∀ x, foldedSetIterable iter X.env x = pure x)
    (h : tLc wi g tYes te (own.map (·.2)) σ H Q)
    (last : ∀ D ce s' m H', Inv X pins σ H' s' → Q (.ref D) H' → s'.heap.Ns ce.locals m → FpOk X pins H' ce.locals → compEnds (model X.prog X.w) X.A X.xe use Qf (.ref D) ce (.ok .next) s') :
    wpAny (model X.prog X.w) X.A (comprehension (.ListComp elt [⟨tg, iter, [], 0⟩] scope pos) scope X.env pos' (newList []) false (eval iter X.env) use) Qf X.xe s := by
  have caps : ∀ y ∈ scope.names, y.2 = .free → ∃ c, X.env.cells.lookup y.1 = some c := fun y hy e => I.ok.has _ (ok.free y hy e)
  refine comprehension_at (use := use) rfl hs (closure_ok caps) ok.kind (fun y hy e => by rw [ok.uniq y hy, e]) (thn (hi.run pins s σ H _ I h) fun _ _ hx => thn hx fun _ s2 ⟨it, fp, tn, J, H2, e, I2, T, st2, f2, q⟩ => ?_)
  subst e
  refine wpAny_newObj_type (newEnv_comp ?_) (by show 0 ≤ sizeLine; decide)
  generalize hD : s2.heap.objs.size = D
  obtain ⟨W, ⟨m0, w0⟩, turn⟩ := q D (I2.hok.fresh (Nat.le_of_eq hD))
  obtain ⟨s3, hs3⟩ : ∃ s3 : Shared, s3 = { s2 with heap := s2.heap.push { cls := .type "list", data := .seq ([] : List Value).toArray } } := ⟨_, rfl⟩
  rw [← hs3]
  have h3 : s3.heap = s2.heap.push { cls := .type "list", data := .seq ([] : List Value).toArray } := by rw [hs3]
  have I3 : Inv X pins σ (upd H2 D (.lst [])) s3 := by
    rw [hs3]
    exact I2.laid (t' := s2.toks) (fun b o e => Heap.get?_push_of_some _ e) (Nat.le_of_eq hD) ⟨Nat.zero_le _, [], 0, .nil, hD ▸ Heap.get?_push_size _ rfl⟩
  have below : ∀ b ∈ fp, b < s2.heap.objs.size := fun b hb => by
    obtain ⟨o, e, _⟩ := T.obj _ _ st2 b hb
    exact Heap.lt_size e
  have f3 : ∀ b ∈ fp, FpOk X pins (upd H2 D (.lst [])) b ∧ b < s3.heap.objs.size := fun b hb => ⟨⟨(upd_ne (by rw [← hD]; exact Nat.ne_of_lt (below b hb))).trans (f2 b hb).1, (f2 b hb).2⟩, by rw [h3, Heap.size_push]; exact Nat.lt_succ_of_lt (below b hb)⟩
  have st3 : tn 0 s3.heap := T.keep _ _ _ st2 fun b _ o e => by rw [h3]; exact Heap.get?_push_of_some _ e
  have I4 := block_start I3 ok hN f3
  generalize upd H2 D (.lst []) = H3 at I3 I4 w0 f3
  have pg := hg s3 H3 s3.heap.objs.size (cellsFrom (s3.heap.objs.size + 1) scope.names (cloFrom X.env.cells scope.names [])) fp
  have pe := he s3 H3 s3.heap.objs.size (cellsFrom (s3.heap.objs.size + 1) scope.names (cloFrom X.env.cells scope.names [])) fp
  show codeAny _ _ (.compStart (.ListComp elt [⟨tg, iter, [], 0⟩] scope pos) 0 (.ref it) (.ref D) (compEnvC scope (cellsFrom (s3.heap.objs.size + 1) scope.names (cloFrom X.env.cells scope.names [])) s3.heap.objs.size X.env)) (compEnds (model X.prog X.w) X.A X.xe use Qf (.ref D) (compEnvC scope (cellsFrom (s3.heap.objs.size + 1) scope.names (cloFrom X.env.cells scope.names [])) s3.heap.objs.size X.env)) { s3 with heap := pushCells (s3.heap.push { cls := .type "dict", data := .dict #[] }) scope.names }
  obtain ⟨ce, hce⟩ : ∃ ce, ce = compEnvC scope (cellsFrom (s3.heap.objs.size + 1) scope.names (cloFrom X.env.cells scope.names [])) s3.heap.objs.size X.env := ⟨_, rfl⟩
  rw [← hce] at I4 pg pe ⊢
  have cL : ce.locals = s3.heap.objs.size := by rw [hce]; rfl
  have cF : ce.frame = X.env.frame := by rw [hce]; rfl
  obtain ⟨s4, hs4⟩ : ∃ s4 : Shared, s4 = { s3 with heap := pushCells (s3.heap.push { cls := .type "dict", data := .dict #[] }) scope.names } := ⟨_, rfl⟩
  rw [← hs4] at I4 ⊢
  have st4 : tn 0 s4.heap := T.keep _ _ _ st3 fun b _ o e => by rw [hs4]; exact pushCells_keeps _ _ _ _ (Heap.get?_push_of_some _ e)
  -- a state of the block, seen from the def
  have seen : ∀ {X' : Cx} {pins' : List (Addr × Obj)} {σ' : L2.St} {H' : Hp} {s' : Shared}, X' = X.blk s3 H3 scope ce fp → Inv X' pins' σ' H' s' → Inv X pins σ H' s' ∧ FpOk X pins H' ce.locals ∧ ∃ m, s'.heap.Ns ce.locals m := fun {X' pins' σ' H' s'} e I' => by
    subst e
    obtain ⟨m, hn, _⟩ := I'.loc
    exact ⟨I3.call' (ch := fp) I'.os I'.base I'.hok I'.bare fun b hb => ⟨(f3 b hb).1.2.2.2.1, (f3 b hb).1.2.1, (f3 b hb).1.2.2.2.2.1, (f3 b hb).1.2.2.2.2.2⟩, I3.fpOk (Nat.le_of_eq cL.symm) I'.free, m, hn⟩
  have still : ∀ {σ' : L2.St} {H' : Hp} {s' : Shared}, Inv (X.blk s3 H3 scope ce fp) [] σ' H' s' → (∀ b ∈ fp, H' b = none) → ∀ b ∈ fp, FpOk (X.blk s3 H3 scope ce fp) [] H' b := fun {σ' H' s'} I' hn b hb =>
    ⟨hn b hb, (I'.ok.exf b hb).1, I'.ok.exfs b hb, .inl hb, fun x c e => (I'.ok.exf b hb).2 x c e, fun p hp => absurd (show p ∈ ([] : List (Addr × Obj)) ++ [] from hp) (by simp)⟩
  have loop : codeAny (model X.prog X.w) X.A (.compLoop (.ListComp elt [⟨tg, iter, [], 0⟩] scope pos) 0 (.ref it) (.ref D) ce) (compEnds (model X.prog X.w) X.A X.xe use Qf (.ref D) ce) s4 := by
    refine compLoop_any (fun n s' => ∃ i H', Inv (X.blk s3 H3 scope ce fp) [] (wipe σ (own.map (·.2))) H' s' ∧ tn i s'.heap ∧ (∀ b ∈ fp, H' b = none) ∧ W i n H') ?_ m0 ⟨0, H3, I4, st4, fun b hb => (f3 b hb).1.1, w0⟩
    rintro n s5 ⟨i, H5, I5, st5, n5, w5⟩
    rcases turn i n H5 w5 with ⟨stop, qq⟩ | ⟨go, Nx, hNx, step⟩
    · refine thnF (T.done (X.blk s3 H3 scope ce fp) rfl rfl rfl hc i [] s5 _ H5 (fun _ _ => False) I5 (still I5 n5) st5 stop) fun r s6 ⟨hr, I6⟩ => ?_
      subst hr
      obtain ⟨I7, f7, m, hn⟩ := seen rfl I6
      exact last D ce s6 m H5 I7 qq hn f7
    · refine thnF (T.item (X.blk s3 H3 scope ce fp) rfl rfl rfl hc i [] s5 _ H5 (fun _ _ => False) I5 (still I5 n5) st5 go) fun r s6 ⟨u, hr, h6⟩ => ?_
      subst hr
      refine thnF h6 fun _ s7 ⟨x, H7, I7, r7, y7, st7, n7⟩ => ?_
      refine thnF (pg.run _ s7 _ H7 x u _ (I7.pinned (still I7 n7) (T.obj _ _ st7)) r7 (step x H7 y7)) fun _ s8 ⟨σ8, H8, I8, hw8, q8⟩ => ?_
      have back : ∀ {s' : Shared} {H' : Hp}, Inv (X.blk s3 H3 scope ce fp) ([] ++ pinsAt fp s7.heap) σ8 H' s' → Nx H' → ∃ m, m < n ∧ ∃ i H', Inv (X.blk s3 H3 scope ce fp) [] (wipe σ (own.map (·.2))) H' s' ∧ tn i s'.heap ∧ (∀ b ∈ fp, H' b = none) ∧ W i m H' := fun {s' H'} I' nx => by
        obtain ⟨m', hm, w'⟩ := hNx H' nx
        have pin' : ∀ b ∈ fp, ∀ o, s7.heap.get? b = some o → s'.heap.get? b = some o ∧ H' b = none := fun b hb o e =>
          let z := I'.pin (b, o) (List.mem_append_right _ (List.mem_append_right _ (mem_pinsAt hb e)))
          ⟨z.1, z.2.1⟩
        refine ⟨m', hm, i + 1, H', (I'.unpinned (pins := [])).weak (by rw [← hw8, wipe_length]) (fun j v e => ?_), T.keep _ _ _ st7 fun b hb o e => (pin' b hb o e).1, fun b hb => ?_, w'⟩
        · rw [← hw8] at e
          exact (wipe_some e).1
        · obtain ⟨o, e, _⟩ := T.obj _ _ st7 b hb
          exact (pin' b hb o e).2
      refine thnF ((pts_nil (X := X.blk s3 H3 scope ce fp)).run _ s8 σ8 H8 _ I8 q8) fun b s9 ⟨H9, I9, q9⟩ => ?_
      cases b with
      | false =>
        simp only [Bool.false_eq_true, if_false] at q9 ⊢
        exact back I9 q9
      | true =>
        simp only [if_true] at q9 ⊢
        refine wpAny_mono (pe.run _ s9 σ8 H9 _ (invXe I9) q9) (fun z s10 ⟨yv, H10, I10, r10, acc, hD10, hz10, nx⟩ => ?_) fun u' s10 hu => ?_
        · exact app_ok (X := X.blk s3 H3 scope ce fp) (invXe (X := blkX X E s3 H3 scope ce fp) (xe' := fun _ _ => False) I10) hD10 hz10 r10 fun s11 I11 => back I11 nx
        · obtain ⟨pinsx, σx, Hx, sx, Ix, c⟩ := hu
          obtain ⟨I7', f7, m, hn⟩ := seen rfl Ix
          have hns : ce.locals ∉ frs X.stack := fun z => (List.mem_cons.mp (I7'.stkSub _ z)).elim f7.2.1 f7.2.2.1
          have fl := fails (W := fun cls d _ H => E cls d H) (E := E) hst hfr tk (fun _ _ _ h => h) cF rfl I7' hn f7 hns c
          cases use <;> exact fl
  exact codeAny_compStart_list loop (T.self X.A 0 _ _ _ st4 loop)
theorem ps_setLcX {i : Nat} {y : Str} {py : Pos} {elt tg iter : Expr} {scope : Scope} {own : List (Str × Nat)} {pos spos : Pos} {wi : TI} {g : TG} {te : TE} {E : XK} (hc : X.calm = true) (hN : X.N.Nodup) (hst : X.stack = X.env :: X.outer) (hfr : X.env.frame = some X.env.locals) (tk : Takes X (fun cls d _ H => E cls d H))
    (hy : X.N[i]? = some y) (hyl : X.env.scope.names.lookup y = some .local)
    (hsw : swapsWith (.ListComp elt [⟨tg, iter, [], 0⟩] scope pos) (some (.Name y py)) spos.line X.env = pure true) (hi : PI X tg iter wi) (ok : BlkOk X.N X.env.scope scope own)
    (hg : ∀ (s : Shared) (H : Hp) (C : Addr) (cl : List (Str × Addr)) (fp : List Addr), PG (X.blk s H scope (compEnvC scope cl C X.env) fp) tg g)
    (he : ∀ (s : Shared) (H : Hp) (C : Addr) (cl : List (Str × Addr)) (fp : List Addr), PE (blkX X E s H scope (compEnvC scope cl C X.env) fp) elt te) (hs : ∀ x, foldedSetIterable iter X.env x = pure x := by intro _; rfl) :
    PS X (.Assign [.Name y py] (.ListComp elt [⟨tg, iter, [], 0⟩] scope pos) spos) (tAsg (tLc wi g tYes te (own.map (·.2))) (gName i)) := by
  refine ⟨fun pins s σ H D I h => ?_⟩
  rw [exec_Assign_Name_used _ _ _ _ hsw]
  refine wpAny_bind (wpAny_standAt (wpAny_bind ?_))
  show wpAny _ X.A (do let _ ← comprehension (.ListComp elt [⟨tg, iter, [], 0⟩] scope pos) scope X.env (firstIterPos [⟨tg, iter, [], 0⟩] pos) (newList []) false (eval iter X.env) (some (assign (.Name y py) X.env))) _ _ s
  have h : tLc wi g tYes te (own.map (·.2)) σ H (fun x H1 => gName i x σ H1 D.nx) := h
  refine wpAny_bind (thn (coreX (Qf := fun _ s' => SP X pins D .next s') hc hN hst hfr tk I hi ok hg he hs h fun L ce s' m H' I' q hn f => ?_) fun _ s' hq => wpAny_pure (wpAny_pure hq))
  show wpAny _ _ (assign (.Name y py) X.env (.ref L)) _ _ _
  refine wpAny_assign_Name (store_ok2 (v := V.ref L) I' hN hy (.inl hyl) rfl (fun s2 I2 ⟨a, sb, ha⟩ => ?_) (.inr hyl))
  have ne : ce.locals ≠ a := ha.elim (fun z => z ▸ f.2.1) fun z e => f.2.2.2.2.1 y a z e.symm
  exact ⟨m, hn.sameBut sb ne, fun h3 sb3 => ⟨_, H', I2.turned (t' := s2.toks) (fun b o hb e => (sb3.2 b hb).trans e) f.1 f.2.1 f.2.2.2.1 f.2.2.2.2.1 f.2.2.2.2.2, q⟩⟩
end
end LCX

set_option Elab.async false
set_option linter.all false
set_option maxRecDepth 100000
set_option maxHeartbeats 4000000
namespace LO
open PySem PySem.Spec PyProof.Rows L2 L2H Evl LT LG LS LX
/-! ### own objects: fields, methods, items changed -/
theorem get_list {X : Cx} : PGet X (rIxL X.K) := by
  intro pins s σ H x y v u Q I rx ry h
  obtain ⟨p, xs, i, z, rfl, rfl, hq, he, q⟩ := h
  cases rx
  obtain ⟨t, rfl⟩ := ry
  obtain ⟨its, r, pl, hz⟩ := I.list hq
  obtain ⟨j, h1, h2, h3, h4, h5⟩ := atI_get he
  obtain ⟨w, ew, rw'⟩ := r.get h2
  have hl := r.length
  have hn := line63
  have fin : EP X pins σ Q w s := ⟨z, H, I, rw', q⟩
  by_cases h0 : 0 ≤ i
  · have hj : i.toNat = j := by
      rw [seqIndex_of h0 h5] at h1
      exact Option.some.inj h1
    exact wpAny_getItem_list (Q := fun r s' => EP X pins σ Q r s') pl.isList h0 (by omega) (by rw [hj]; simpa using ew) fin
  · have hj : (i + (its.toArray.size : Int)).toNat = j := by
      rw [seqIndex_neg (by omega) h4] at h1
      rw [List.size_toArray, ← hl]
      exact Option.some.inj h1
    exact wpAny_getItem_list_neg (Q := fun r s' => EP X pins σ Q r s') pl.isList (by omega) (by rw [List.size_toArray] <;> omega) (by omega) (by rw [hj]; simpa using ew) fin
/-- o.m(e, ..), what is raised wished for at the slots -/
def tMethA (C : Addr) (m : Str) (sp : Sp) (E : L2.St → XK) (ta : TE) (t : TA) : TE := fun σ H Q => ta σ H fun x H1 => ∃ a dx fs, x = .ref a ∧ H1 a = some (.ins C dx fs) ∧ fs.lookup m = none ∧ t σ H1 fun vs H2 => sp (x :: vs) H2 Q (E σ)
section
variable {X : Cx} {CX : CXT} {k : Nat} {f C : Addr} {fd : FuncData} {ps : List Str} {sp : Sp} {E : L2.St → XK} {m : Str} {pos apos : Pos} {e o : Expr} {es : List Expr} {ta : TE} {t : TA}
theorem pe_methA {pl : Sem Bool} (he : PE X o ta) (c : Cls X.K C) (hm : Meth X.K C m f) (F : FnOk X.prog X.w X.K X.mg X.base CX k f fd ps sp) (hr : Room k X.A) (hb : Binds X.K fd ps []) (hx : ∀ σ, PassesAt CX X σ (E σ)) (ha : PA X (e :: es) t)
    (hst : starEach (e :: es) X.env = (false, eval e X.env) :: starEach es X.env := by rfl) (hpl : (backTo pos (starEach es X.env)).any (·.1) = false := by rfl)
    (ht : eval (.Call (.Attribute o m apos) (e :: es) [] pos) X.env = (do
      let ov ← eval o X.env
      standAt apos.atName
      let (f, first) ← holding [ov] (getMethod ov m pl)
      callWith pos f first (backTo pos (starEach (e :: es) X.env)) (backToKw pos (keywordEach [] X.env))) := by rfl) :
    PE X (.Call (.Attribute o m apos) (e :: es) [] pos) (tMethA C m sp E ta t) := by
  refine ⟨fun pins s σ H Q I h => ?_⟩
  refine PySem.W.methodCall_KW (pl := pl) (thn (he.run pins s σ H _ I h) fun u s1 ⟨x, H1, I1, rx, a, dx, fs, ex, ea, l, q⟩ => ?_) ht
  subst ex
  obtain rfl : u = Value.ref a := rx
  refine getmeth_ok I1 ea c hm l ?_
  refine PySem.W.callWith_K (first := [.ref a]) (h₀ := X.base) I.ok.mod.kin hm.kp (thn (ha.run pos pins s1 σ H1 _ I1 q) fun us s2 ⟨vs, H2, I2, r, q2⟩ => ⟨I2.kIn, ?_⟩) hst hpl
  exact run_fnS (us := .ref a :: us) (vs := .ref a :: vs) F hr hb (hx σ) I2 (.cons rfl r) q2
theorem pe_methA0 {pl : Sem Bool} (he : PE X o ta) (c : Cls X.K C) (hm : Meth X.K C m f) (F : FnOk X.prog X.w X.K X.mg X.base CX k f fd ps sp) (hr : Room k X.A) (hb : Binds X.K fd ps []) (hx : ∀ σ, PassesAt CX X σ (E σ))
    (ht : eval (.Call (.Attribute o m apos) [] [] pos) X.env = (do
      let ov ← eval o X.env
      standAt apos.atName
      let (f, first) ← holding [ov] (getMethod ov m pl)
      callWith pos f first (backTo pos (starEach [] X.env)) (backToKw pos (keywordEach [] X.env))) := by rfl) :
    PE X (.Call (.Attribute o m apos) [] [] pos) (tMethA C m sp E ta tNil) := by
  refine ⟨fun pins s σ H Q I h => ?_⟩
  refine PySem.W.methodCall_KW (pl := pl) (thn (he.run pins s σ H _ I h) fun u s1 ⟨x, H1, I1, rx, a, dx, fs, ex, ea, l, q⟩ => ?_) ht
  subst ex
  obtain rfl : u = Value.ref a := rx
  refine getmeth_ok I1 ea c hm l ?_
  exact PySem.W.callWith_K0 (first := [.ref a]) I1.kIn hm.kp (run_fnS (us := [.ref a]) (vs := [.ref a]) F hr hb (hx σ) I1 (.cons rfl .nil) q)
end
/-! ### a def that is handed the caught exception, within the suite -/
structure FnE (P : Program) (w : World) (K : PySem.W.Frag) (mg : Str → Option Value) (base : Heap) (CX : CXT) (k : Nat) (f : Addr) (fd : FuncData) (ps : List Str) (sp : Addr → Addr → Sp) : Prop where
  len : ∀ D a vs H Q E, sp D a vs H Q E → vs.length = ps.length
  run : ∀ (A : Around) (outer : List Env) (s : Shared) (H : Hp) (args : Args) (us : List Value) (vs : List V) (Q : VK) (E : XK) (p : Addr × Obj) (D : Addr), RoomH k A → Zc (.ref D) none p.2 → (∃ vs, p.2.data = .fields vs) → PinOk outer H s p → Env0 P w K mg base A outer s H → BindsTo s fd args (ps.zip us) → Vals vs us → sp D p.1 vs H Q E →
    codeAny (model P w) A (.call (.ref f) args) (CR CX outer P w H s Q E) s
theorem fn_ofE {CX : CXT} {P : Program} {w : World} {K : PySem.W.Frag} {mg : Str → Option Value} {base : Heap} {k : Nat} {f : Addr} {name qual : Str} {params : Arguments} {body : List Stmt} {scope : Scope} {dV kV doc pm cdv ct oc : Value} {an od : Option Addr}
    {osl : Array (Option Value)} {N ps : List Str} {sp : Addr → Addr → Sp} (lk : K.lookup f = some ⟨oc, od, .func (PySem.W.fnOf name qual params body scope dV kV doc pm an cdv ct), osl⟩) (hcd : PySem.W.codeIn K cdv qual = true) (S : FnScope N ps scope)
    (len : ∀ D a vs H Q E, sp D a vs H Q E → vs.length = ps.length)
    (hbody : ∀ (A : Around) (outer : List Env) (s : Shared) (H : Hp) (vs : List V) (Q : VK) (E : XK) (p : Addr × Obj) (D : Addr), RoomH k (A.deeper (envOfC qual scope s.heap.objs.size f cdv)) → Zc (.ref D) none p.2 → (∃ vs, p.2.data = .fields vs) → sp D p.1 vs H Q E →
      ∃ t, PSs (cxH CX P w K mg base N qual scope f cdv A outer s H E p) body t ∧ t { nx := fun _ H' => Q .non H', rt := Q } (L2.start N vs) H) :
    FnE P w K mg base CX (k + 1) f (PySem.W.fnOf name qual params body scope dV kV doc pm an cdv ct) ps sp := by
  refine ⟨len, fun A outer s H args us vs Q E p D hr hz hf hpin e0 hb r hsp => ?_⟩
  have hl := len _ _ _ _ _ _ hsp
  have KX : K.In s.heap := e0.mod.kin.keeps fun b o e => (e0.bs b o e).1
  have lim : s.heap.NoLimit := e0.mod.nolimit.keeps fun b o e => (e0.bs b o e).1
  have hkind : ∀ y ∈ ps.zip us, scope.names.lookup y.1 = some .local ∨ (scope.names.lookup y.1 = some .cell ∧ ((cellsFrom (s.heap.objs.size + 1) scope.names []).lookup y.1).isSome = true) := fun ⟨n, v⟩ hy => by
    rcases S.par n (List.of_mem_zip hy).1 with q | q
    · exact .inl q
    · exact .inr ⟨q, PySem.W.cellsFrom_some _ _ _ (.inl q)⟩
  refine codeAny_call_function hr.depth (KX _ _ lk) rfl S.co S.gen rfl (PySem.W.codeRec_of KX hcd) (hb _ _ _ _ ?_)
  refine wpAny_newFunctionEnv_cells S.kind hkind fun env he s1 x => ?_
  subst he
  refine ⟨lim.keeps x.toInCall.keep, codeAny_func ?_⟩
  obtain ⟨t, ht, hq⟩ := hbody A outer s H vs Q E p D (hr.deeper _) hz hf hsp
  have I : Inv (cxH CX P w K mg base N qual scope f cdv A outer s H E p) [] (L2.start N vs) H s1 := inv_startH S hpin e0 hl r x
  refine wpAny_mono (ht.run [] s1 (L2.start N vs) H _ I hq) (fun fl s' hs => ?_) fun e s' hs => hs
  have fin : ∀ {σ' : L2.St} {H' : Hp} {v : V} {u : Value}, Inv (cxH CX P w K mg base N qual scope f cdv A outer s H E p) [] σ' H' s' → RelV v u → Q v H' → CE outer P w H s Q u s' :=
    fun {σ' H' v u} J rv q => ⟨v, H', J.os, J.bare, J.base, J.hok, rv, q⟩
  cases fl with
  | ret u =>
    obtain ⟨v, σ', H', J, rv, q⟩ := hs
    exact fin J rv q
  | next =>
    obtain ⟨σ', H', J, q⟩ := hs
    exact fin (v := V.non) (u := Value.none) J rfl q
  | brk =>
    obtain ⟨_, _, _, q⟩ := hs
    exact False.elim q
  | cont =>
    obtain ⟨_, _, _, q⟩ := hs
    exact False.elim q
section
variable {P : Program} {w : World} {K : PySem.W.Frag} {mg : Str → Option Value} {base : Heap}
theorem okE {x qual : Str} {st : Stmt} {f : Addr} {fd : FuncData} {N ps : List Str} {k : Nat} {sp : Addr → Addr → Sp} (F : Fun K x qual st f fd) (S : FnScope N ps (defScope st)) (len : ∀ D a vs H Q E, sp D a vs H Q E → vs.length = ps.length)
    (hbody : ∀ (cdv : Value) (A : Around) (outer : List Env) (s : Shared) (H : Hp) (vs : List V) (Q : VK) (E : XK) (p : Addr × Obj) (D : Addr), RoomH k (A.deeper (envOfC qual (defScope st) s.heap.objs.size f cdv)) → Zc (.ref D) none p.2 → (∃ vs, p.2.data = .fields vs) → sp D p.1 vs H Q E →
      ∃ t, PSs (cxH CX0 P w K mg base N qual (defScope st) f cdv A outer s H E p) (defBody st) t ∧ t { nx := fun _ H' => Q .non H', rt := Q } (L2.start N vs) H) : FnE P w K mg base CX0 (k + 1) f fd ps sp := by
  obtain ⟨oc, od, kV, doc, pm, an, cdv, ct, osl, rfl, lk, hcd⟩ := F.ex
  exact fn_ofE lk hcd S len fun A outer s H vs Q E p D hr hz hf hsp => hbody cdv A outer s H vs Q E p D hr hz hf hsp
end
def tCallE (sp : Addr → Addr → Sp) (cls : Value) (d : Option Addr) (a : Addr) (E : L2.St → XK) (t : TA) : TE := fun σ H Q => t σ H fun vs H1 => ∃ D, cls = .ref D ∧ d = none ∧ sp D a vs H1 Q (E σ)
section
variable {X : Cx} {CX : CXT} {k : Nat} {f : Addr} {fd : FuncData} {ps : List Str} {sp : Addr → Addr → Sp} {E : L2.St → XK} {x : Str} {q pos : Pos} {e : Expr} {es : List Expr} {t : TA} {a : Addr} {oe : Obj} {cls : Value} {d : Option Addr} {pn : List (Addr × Obj)}
theorem pass0E {X : Cx} {σ : L2.St} {E : XK} : PassesAt CX0 X σ E := fun _ _ _ _ _ _ h => h.elim
theorem pe_callE (hz : Zc cls d oe) (hf : ∃ vs, oe.data = .fields vs) (F : FnE X.prog X.w X.K X.mg X.base CX k f fd ps sp) (hr : Room k X.A) (hg : Gl (X.suite a ((a, oe) :: pn)) x) (hm : X.mg x = some (.ref f)) (hk : PySem.W.keepIn X.K (.ref f) = true) (hb : Binds X.K fd ps []) (hx : ∀ σ, PassesAt CX (X.suite a ((a, oe) :: pn)) σ (E σ))
    (ha : PA (X.suite a ((a, oe) :: pn)) (e :: es) t) (hdb : (x == ("__debug__" : Str)) = false := by decide) (he : starEach (e :: es) X.env = (false, eval e X.env) :: starEach es X.env := by rfl) (hpl : (backTo pos (starEach es X.env)).any (·.1) = false := by rfl) :
    PE (X.suite a ((a, oe) :: pn)) (.Call (.Name x q) (e :: es) [] pos) (tCallE sp cls d a E t) := by
  refine ⟨fun pins s σ H Q I h => ?_⟩
  refine wpAny_Call_Name_kw (ld_glob I hg hm ?_ hdb)
  refine PySem.W.callWith_K (h₀ := X.base) I.ok.mod.kin hk (thn (ha.run pos pins s σ H _ I h) fun us s1 ⟨vs, H1, I1, r, q⟩ => ⟨I1.kIn, ?_⟩) he hpl
  obtain ⟨D, rfl, rfl, q⟩ := q
  have hl : us.length = ps.length := by rw [← r.length]; exact F.len _ _ _ _ _ _ q
  have b := hb s1 us I1.kIn (by rw [List.append_nil]; exact hl)
  rw [List.append_nil] at b
  have P1 := I1.pin (a, oe) (List.mem_append_left _ List.mem_cons_self)
  have hpin : PinOk X.stack H1 s1 (a, oe) := ⟨P1.1, P1.2.1, fun hm => (List.mem_cons.mp (I1.stkSub a hm)).elim P1.2.2.1 P1.2.2.2.1, P1.2.2.2.2⟩
  refine wpAny_call (codeAny_mono (F.run _ X.stack s1 H1 ⟨us, []⟩ us vs Q (E σ) (a, oe) D ⟨hr.dp, hr.un⟩ hz hf hpin I1.env0 b r q) fun r s' hq => ?_)
  cases r with
  | error e => exact hx σ pins H1 s1 e s' I1 hq
  | ok fl =>
    cases fl with
    | ret u => exact I1.after hq
    | next => exact False.elim hq
    | brk => exact False.elim hq
    | cont => exact False.elim hq
end
/-- isinstance(e, c), e the exception that is handed in -/
def rIsP (K : PySem.W.Frag) (D a : Addr) : List V → Hp → VK → Prop := fun xs H Q => ExcC K D ∧ rIsE K D a xs H Q
theorem call_isP {X : Cx} {D : Addr} {p : Addr × Obj} (hp : p ∈ X.pn) (hz : Zc (.ref D) none p.2) (hf : ∃ vs, p.2.data = .fields vs) : CallR X (.builtin "isinstance") (rIsP X.K D p.1) := by
  intro pins s σ H xs us Q I r h
  obtain ⟨C, c, cv, b, rfl, hcv, e, q⟩ := h
  cases r with
  | cons rx rr =>
    cases rr with
    | cons rt rr =>
      cases rr
      cases rx
      have ec := hcv _ rt
      subst ec
      obtain ⟨hget, _⟩ := I.pin p (List.mem_append.mpr (.inl hp))
      obtain ⟨vs, hv⟩ := hf
      have J : PySem.W.InstAt s.heap p.1 p.2 D none := by
        obtain ⟨a, oc, od, oda, osl⟩ := p
        obtain ⟨h1, h2⟩ := hz
        dsimp only at h1 h2 hv hget ⊢
        subst h1 h2 hv
        exact ⟨hget, rfl, rfl, trivial⟩
      exact PySem.W.kia_one (PySem.W.handS_kitx_exc C.hg C.hk C.hs C.hd C.ha C.hn C.ht C.hm) I.kIn J e (fun z => nomatch z) fun tk => ⟨.bl b, H, I.kept (t' := tk) fun _ _ z => z, rfl, q⟩
theorem ev_isP {K : PySem.W.Frag} {D a C : Addr} {σ : L2.St} {H : Hp} {ta tb : TE} {b : Bool} (hC : ExcC K D) (h : Ev ta σ H (.ref a)) (hn : Ev tb σ H (.ref C)) (hk : PySem.W.kitOne K (.ref D) (.ref C) = some b) : Ev (tCB (rIsP K D a) (tCons ta (tCons tb tNil))) σ H (.bl b) :=
  ev_cb (ea_cons h (ea_cons hn ea_nil)) fun H1 e Q q => ⟨hC, .ref C, .ref C, b, rfl, fun u hu => hu, hk, q H1 (Ex.refl H1)⟩
/-- isinstance in the suite, the class open -/
def rIsQ (K : PySem.W.Frag) (a : Addr) (cls : Value) (d : Option Addr) : List V → Hp → VK → Prop := fun xs H Q => ∃ D, cls = .ref D ∧ d = none ∧ ExcC K D ∧ rIsE K D a xs H Q
theorem call_isQ {X : Cx} {a : Addr} {oe : Obj} {cls : Value} {d : Option Addr} {pn : List (Addr × Obj)} (hz : Zc cls d oe) (hf : ∃ vs, oe.data = .fields vs) : CallR (X.suite a ((a, oe) :: pn)) (.builtin "isinstance") (rIsQ X.K a cls d) := by
  intro pins s σ H xs us Q I r h
  obtain ⟨D, rfl, rfl, C, h⟩ := h
  exact call_isE C hz hf pins s σ H xs us Q I r h
theorem ev_isQ {K : PySem.W.Frag} {D a C : Addr} {σ : L2.St} {H : Hp} {ta tb : TE} {b : Bool} (hC : ExcC K D) (h : Ev ta σ H (.ref a)) (hn : Ev tb σ H (.ref C)) (hk : PySem.W.kitOne K (.ref D) (.ref C) = some b) : Ev (tCB (rIsQ K a (.ref D) none) (tCons ta (tCons tb tNil))) σ H (.bl b) :=
  ev_cb (ea_cons h (ea_cons hn ea_nil)) fun H1 e Q q => ⟨D, rfl, rfl, hC, .ref C, .ref C, b, rfl, fun u hu => hu, hk, q H1 (Ex.refl H1)⟩
theorem el_is {te : TE} {σ : L2.St} {H : Hp} {xs ys : List V} (h : EvL te σ H xs) (e : xs = ys) : EvL te σ H ys := by
  rw [← e]
  exact h
theorem rv_isN {H : Hp} {x : V} : RV (fun x y H Q => y = .non ∧ Q (.bl (decide (x = .non))) H) x .non H (.bl (decide (x = .non))) := rv_val fun _ _ Q q => ⟨rfl, q⟩
theorem rv_notN {H : Hp} {x : V} : RV (fun x y H Q => y = .non ∧ Q (.bl (!decide (x = .non))) H) x .non H (.bl (!decide (x = .non))) := rv_val fun _ _ Q q => ⟨rfl, q⟩
/-- a call, then a new instance by its __init__ -/
theorem q_make {C : Addr} {sp : Sp} {σ : L2.St} {H : Hp} {t : TA} {vs : List V} {E : XK} {i : Nat} {tz : TS} {D : Ends} (ht : EvA t σ H vs) (k : ∀ p dx H1 H2, H p = none → H1 p = none → Ex H H1 → H2 p = some (.ins C dx []) → Ex H1 H2 → sp (.ref p :: vs) H2 (fun v H3 => v = .non ∧ tz D (σ.set i (some (.ref p))) H3) E) : tSeq (tAsg (tMake C sp [] E t) (gName i)) tz D σ H :=
  ht H (Ex.refl _) _ fun H1 e1 p dx hp hd hne => by
    have h := k p dx H1 (upd (upd H1 dx (.own p)) p (.ins C dx [])) (fresh_back e1 hp) hp e1 upd_same ((Ex.new hd).mut hp)
    rw [show V.ref p :: (vs ++ []) = V.ref p :: vs by rw [List.append_nil]]
    exact h
/-- runs of a call -/
theorem q_run {sp : Sp} {σ : L2.St} {H : Hp} {tr : TA} {vs : List V} {E : XK} {tz : TS} {D : Ends} {i : Nat} (h : EvA tr σ H vs) (k : ∀ H1, Ex H H1 → sp vs H1 (fun v H2 => tz D (σ.set i (some v)) H2) E) : tSeq (tAsg (tCall sp [] E tr) (gName i)) tz D σ H := h H (Ex.refl H) _ fun H1 e => by
    rw [List.append_nil]
    exact k H1 e
/-! ### what fields and methods evaluate to -/
section
variable {K : PySem.W.Frag} {σ : L2.St} {H : Hp} {ta tb te : TE} {t : TA} {v z : V} {C p dx : Addr} {fs : List (Str × V)} {m : Str} {sp : Sp} {vs : List V} {tz : TS} {D : Ends}
theorem ev_fld (ha : Ev ta σ H (.ref p)) (hi : H p = some (.ins C dx fs)) (c : Cls K C) (n : NoAttr K C m) (hl : fs.lookup m = some v) : Ev (tFld K ta m) σ H v := fun H1 e Q q =>
  ha H1 e _ fun H2 e2 => ⟨p, C, dx, fs, v, rfl, e2 _ _ (e _ _ hi), c, n, hl, q H2 e2⟩
theorem ev_meth {E : XK} (ha : Ev ta σ H (.ref p)) (hi : H p = some (.ins C dx fs)) (hl : fs.lookup m = none) (ht : EvA t σ H vs) (hs : SpV sp (.ref p :: vs) H z) : Ev (tMeth C m sp [] E ta t) σ H z := fun H1 e Q q =>
  ha H1 e _ fun H2 e2 => ⟨p, dx, fs, rfl, e2 _ _ (e _ _ hi), hl, ht H2 (e.trans e2) _ fun H3 e3 => by
    rw [List.append_nil]
    exact hs H3 ((e.trans e2).trans e3) Q (fun H4 e4 => q H4 ((e2.trans e3).trans e4)) E⟩
theorem ev_meth0 {E : XK} (ha : Ev ta σ H (.ref p)) (hi : H p = some (.ins C dx fs)) (hl : fs.lookup m = none) (hs : SpV sp [.ref p] H z) : Ev (tMeth C m sp [] E ta tNil) σ H z := ev_meth ha hi hl ea_nil hs
/-- a method that changes something: its own promise, then the rest -/
theorem m_run {E : XK} {Q : VK} (ha : Ev ta σ H (.ref p)) (hi : H p = some (.ins C dx fs)) (hl : fs.lookup m = none) (ht : EvA t σ H vs) (k : ∀ H1, Ex H H1 → sp (.ref p :: vs) H1 Q E) : tMeth C m sp [] E ta t σ H Q :=
  ha H (Ex.refl _) _ fun H2 e2 => ⟨p, dx, fs, rfl, e2 _ _ hi, hl, ht H2 e2 _ fun H3 e3 => by
    rw [List.append_nil]
    exact k H3 (e2.trans e3)⟩
theorem mA_run {E : L2.St → XK} {Q : VK} (ha : Ev ta σ H (.ref p)) (hi : H p = some (.ins C dx fs)) (hl : fs.lookup m = none) (ht : EvA t σ H vs) (k : ∀ H1, Ex H H1 → sp (.ref p :: vs) H1 Q (E σ)) : tMethA C m sp E ta t σ H Q :=
  ha H (Ex.refl _) _ fun H2 e2 => ⟨p, dx, fs, rfl, e2 _ _ hi, hl, ht H2 e2 _ fun H3 e3 => k H3 (e2.trans e3)⟩
theorem q_m {E : XK} (ha : Ev ta σ H (.ref p)) (hi : H p = some (.ins C dx fs)) (hl : fs.lookup m = none) (ht : EvA t σ H vs) (k : ∀ H1, Ex H H1 → sp (.ref p :: vs) H1 (fun _ H2 => tz D σ H2) E) : tSeq (tDrop (tMeth C m sp [] E ta t)) tz D σ H := m_run (Q := fun _ H2 => tz D σ H2) ha hi hl ht k
theorem s_m {E : XK} (ha : Ev ta σ H (.ref p)) (hi : H p = some (.ins C dx fs)) (hl : fs.lookup m = none) (ht : EvA t σ H vs) (k : ∀ H1, Ex H H1 → sp (.ref p :: vs) H1 (fun _ H2 => D.nx σ H2) E) : tDrop (tMeth C m sp [] E ta t) D σ H := m_run (Q := fun _ H2 => D.nx σ H2) ha hi hl ht k
theorem r_m {E : XK} (ha : Ev ta σ H (.ref p)) (hi : H p = some (.ins C dx fs)) (hl : fs.lookup m = none) (ht : EvA t σ H vs) (k : ∀ H1, Ex H H1 → sp (.ref p :: vs) H1 D.rt E) : tRet (tMeth C m sp [] E ta t) D σ H := m_run (Q := D.rt) ha hi hl ht k
theorem q_mA {i : Nat} {E : XK} (ha : Ev ta σ H (.ref p)) (hi : H p = some (.ins C dx fs)) (hl : fs.lookup m = none) (ht : EvA t σ H vs) (k : ∀ H1, Ex H H1 → sp (.ref p :: vs) H1 (fun v H2 => tz D (σ.set i (some v)) H2) E) : tSeq (tAsg (tMeth C m sp [] E ta t) (gName i)) tz D σ H := m_run (Q := fun v H2 => tz D (σ.set i (some v)) H2) ha hi hl ht k
/-- the same in a try's body -/
theorem r_mA {E : L2.St → XK} (ha : Ev ta σ H (.ref p)) (hi : H p = some (.ins C dx fs)) (hl : fs.lookup m = none) (ht : EvA t σ H vs) (k : ∀ H1, Ex H H1 → sp (.ref p :: vs) H1 D.rt (E σ)) : tRet (tMethA C m sp E ta t) D σ H := mA_run (Q := D.rt) ha hi hl ht k
theorem q_mAD {E : L2.St → XK} (ha : Ev ta σ H (.ref p)) (hi : H p = some (.ins C dx fs)) (hl : fs.lookup m = none) (ht : EvA t σ H vs) (k : ∀ H1, Ex H H1 → sp (.ref p :: vs) H1 (fun _ H2 => tz D σ H2) (E σ)) : tSeq (tDrop (tMethA C m sp E ta t)) tz D σ H := mA_run (Q := fun _ H2 => tz D σ H2) ha hi hl ht k
theorem q_mAA {i : Nat} {E : L2.St → XK} (ha : Ev ta σ H (.ref p)) (hi : H p = some (.ins C dx fs)) (hl : fs.lookup m = none) (ht : EvA t σ H vs) (k : ∀ H1, Ex H H1 → sp (.ref p :: vs) H1 (fun v H2 => tz D (σ.set i (some v)) H2) (E σ)) : tSeq (tAsg (tMethA C m sp E ta t) (gName i)) tz D σ H := mA_run (Q := fun v H2 => tz D (σ.set i (some v)) H2) ha hi hl ht k
/-- o.f = e -/
theorem s_fld (hv : Ev te σ H v) (ha : Ev ta σ H (.ref p)) (hi : H p = some (.ins C dx fs)) (c : Cls K C) (n : NoAttr K C m) (hz : fs.length < 1000) (k : ∀ H1, Ex H H1 → D.nx σ (upd H1 p (.ins C dx (putF m v fs)))) : sFld K ta te m D σ H :=
  hv H (Ex.refl _) _ fun H1 e1 => ha H1 e1 _ fun H2 e2 => ⟨p, C, dx, fs, rfl, e2 _ _ (e1 _ _ hi), c, n, hz, k H2 (e1.trans e2)⟩
theorem s_fldL {xs : List V} (hv : EvL te σ H xs) (ha : Ev ta σ H (.ref p)) (hi : H p = some (.ins C dx fs)) (c : Cls K C) (n : NoAttr K C m) (hz : fs.length < 1000) (k : ∀ l H1, H l = none → Ex H H1 → H1 l = some (.lst xs) → D.nx σ (upd H1 p (.ins C dx (putF m (.ref l) fs)))) : sFld K ta te m D σ H :=
  hv H (Ex.refl _) _ fun l H1 hl e1 h1 => ha H1 e1 _ fun H2 e2 => ⟨p, C, dx, fs, rfl, e2 _ _ (e1 _ _ hi), c, n, hz, k l H2 hl (e1.trans e2) (e2 _ _ h1)⟩
theorem q_fld (hv : Ev te σ H v) (ha : Ev ta σ H (.ref p)) (hi : H p = some (.ins C dx fs)) (c : Cls K C) (n : NoAttr K C m) (hz : fs.length < 1000) (k : ∀ H1, Ex H H1 → tz D σ (upd H1 p (.ins C dx (putF m v fs)))) : tSeq (sFld K ta te m) tz D σ H := s_fld (D := { D with nx := tz D }) hv ha hi c n hz k
theorem q_fldL {xs : List V} (hv : EvL te σ H xs) (ha : Ev ta σ H (.ref p)) (hi : H p = some (.ins C dx fs)) (c : Cls K C) (n : NoAttr K C m) (hz : fs.length < 1000) (k : ∀ l H1, H l = none → Ex H H1 → H1 l = some (.lst xs) → tz D σ (upd H1 p (.ins C dx (putF m (.ref l) fs)))) : tSeq (sFld K ta te m) tz D σ H := s_fldL (D := { D with nx := tz D }) hv ha hi c n hz k
/-- xs[j] += e -/
theorem s_augL {f : Int → Int → Int} {l : Addr} {xs : List V} {j : Nat} {a b : Int} (ho : Ev ta σ H (.ref l)) (hi : Ev tb σ H (.int (j : Int))) (hl : H l = some (.lst xs)) (hj : xs[j]? = some (.int a)) (he : Ev te σ H (.int b)) (k : ∀ H1, Ex H H1 → D.nx σ (upd H1 l (.lst (xs.set j (.int (f a b)))))) :
    tAugS ta tb te (rIxL K) (ipI f) rSetL D σ H := ho H (Ex.refl _) _ fun H1 e1 => hi H1 e1 _ fun H2 e2 => ⟨l, xs, (j : Int), .int a, rfl, rfl, sq_of (e2 _ _ (e1 _ _ hl)), atI_nat hj, he H2 (e1.trans e2) _ fun H3 e3 => ⟨a, b, rfl, rfl, l, xs, (j : Int), j, rfl, rfl, e3 _ _ (e2 _ _ (e1 _ _ hl)), ixN_nat (List.getElem?_eq_some_iff.mp hj).1, k H3 ((e1.trans e2).trans e3)⟩⟩
theorem q_augL {f : Int → Int → Int} {l : Addr} {xs : List V} {j : Nat} {a b : Int} (ho : Ev ta σ H (.ref l)) (hi : Ev tb σ H (.int (j : Int))) (hl : H l = some (.lst xs)) (hj : xs[j]? = some (.int a)) (he : Ev te σ H (.int b)) (k : ∀ H1, Ex H H1 → tz D σ (upd H1 l (.lst (xs.set j (.int (f a b)))))) :
    tSeq (tAugS ta tb te (rIxL K) (ipI f) rSetL) tz D σ H := s_augL (D := { D with nx := tz D }) ho hi hl hj he k
end
/-! ### heaps in which the objects of S may change -/
def Fr (S : Addr → Prop) (H H' : Hp) : Prop := ∀ a o, H a = some o → ¬ S a → H' a = some o
theorem Fr.of {S : Addr → Prop} {H H' : Hp} (e : Ex H H') : Fr S H H' := fun a o h _ => e a o h
theorem Fr.trans {S : Addr → Prop} {H H1 H2 : Hp} (e : Fr S H H1) (f : Fr S H1 H2) : Fr S H H2 := fun a o h n => f a o (e a o h n) n
theorem Fr.mut {S : Addr → Prop} {H H' : Hp} {p : Addr} {o : HO} (e : Fr S H H') (h : S p) : Fr S H (upd H' p o) := fun a u ha n => by
  rw [upd_ne fun z => n (by rw [z]; exact h)]
  exact e a u ha n
theorem Fr.fresh {S : Addr → Prop} {H H' : Hp} {p : Addr} (e : Fr S H H') (h : H' p = none) (n : ¬ S p) : H p = none := by
  cases h1 : H p with
  | none => rfl
  | some o =>
    rw [e p o h1 n] at h
    cases h
/-- what H0 has stays, when what changes is none of it -/
theorem Fr.ex {S : Addr → Prop} {H0 H H' : Hp} (e : Ex H0 H) (f : Fr S H H') (n : ∀ a, S a → H0 a = none) : Ex H0 H' := fun a o h => f a o (e a o h) fun s => by
  rw [n a s] at h
  cases h
/-- what is read stands when an instance changes -/
theorem mut_l {K : PySem.W.Frag} {H H1 : Hp} {p C dx a : Addr} {fs fs' : List (Str × V)} {xs : List V} (e : Ex H H1) (hp : H p = some (.ins C dx fs)) (h : SqL K H a xs) : SqL K (upd H1 p (.ins C dx fs')) a xs := by
  rcases h with (h | ⟨o, h⟩) | h
  · exact .inl (.inl (by rw [upd_ne (ne_of h hp (by intro z; cases z))]; exact e _ _ h))
  · exact .inl (.inr ⟨o, by rw [upd_ne (ne_of h hp (by intro z; cases z))]; exact e _ _ h⟩)
  · exact .inr h
theorem mut_t {K : PySem.W.Frag} {H H1 : Hp} {p C dx a : Addr} {fs fs' : List (Str × V)} {xs : List V} (e : Ex H H1) (hp : H p = some (.ins C dx fs)) (h : SqT K H a xs) : SqT K (upd H1 p (.ins C dx fs')) a xs := by
  rcases h with (h | ⟨o, h⟩) | h
  · exact .inl (.inl (by rw [upd_ne (ne_of h hp (by intro z; cases z))]; exact e _ _ h))
  · exact .inl (.inr ⟨o, by rw [upd_ne (ne_of h hp (by intro z; cases z))]; exact e _ _ h⟩)
  · exact .inr h
/-- list(a tuple) -/
theorem el_listT {K : PySem.W.Frag} {σ : L2.St} {H : Hp} {ta : TE} {p : Addr} {xs : List V} (ha : Ev ta σ H (.ref p)) (h : SqT K H p xs) : EvL (tCB (rListS K) (tCons ta tNil)) σ H xs := fun H1 e Q q =>
  ha H1 e _ fun H2 e2 => ⟨p, xs, rfl, Or.inr (ex_t (e.trans e2) h), fun l hl => q l _ (fresh_back e2 hl) (e2.trans (Ex.new hl)) upd_same⟩
/-! ### comprehensions over two lists at once -/
theorem el_lcZ {K : PySem.W.Frag} {σ : L2.St} {H : Hp} {a b : Addr} {xs ys : List V} {t : TA} {tt : TT} {te : TE} {i j : Nat} {vs : List Nat} (f : Nat → Bool) (v : Nat → V) (h : EvA t σ H [.ref a, .ref b]) (hx : SqL K H a xs) (hy : SqL K H b ys) (hlen : xs.length = ys.length) (hz : xs.length ≤ 40000)
    (hw : ∀ x y, wipe (((wipe σ vs).set i (some x)).set j (some y)) vs = wipe σ vs)
    (ht : ∀ (n : Nat) (x y : V) H1, Ex H H1 → xs[n]? = some x → ys[n]? = some y → EvT tt (((wipe σ vs).set i (some x)).set j (some y)) H1 (f n)) (he : ∀ (n : Nat) (x y : V) H1, Ex H H1 → xs[n]? = some x → ys[n]? = some y → f n = true → Ev te (((wipe σ vs).set i (some x)).set j (some y)) H1 (v n)) :
    EvL (tLc (iZip K t) (gTup K 2 (gCons (gName i) (gCons (gName j) gNil))) tt te vs) σ H (given xs.length f v) := fun H0 e Q q => h H0 e _ fun H1 e1 => ⟨a, b, xs, ys, rfl, ex_l (e.trans e1) hx, ex_l (e.trans e1) hy, fun Dl hD =>
  lc_it (walk_zip (K := K) (a := a) (b := b) (xs := xs) (ys := ys) (n := xs.length) (by omega)) (Cw H1 f v Dl) ⟨hD, Ex.new hD, upd_same⟩ (fun i H' _ p => ⟨ex_l ((e.trans e1).trans p.2.1) hx, ex_l ((e.trans e1).trans p.2.1) hy⟩)
    (fun n z H2 H2' hn p y => by
      obtain ⟨T, x1, y1, rfl, hT, rfl, h1, h2⟩ := y
      have p' : Cw H1 f v Dl n (upd H2 T (.tup [x1, y1])) := ⟨p.1, p.2.1.trans (Ex.new hT), (Ex.new hT) _ _ p.2.2⟩
      have e2 := ((e.trans e1).trans p'.2.1)
      refine ⟨T, _, rfl, st_of upd_same, rfl, _, _, rfl, _, _, rfl, rfl, hw x1 y1, cw_turn (H := H1) p' (by omega) ?_ ?_⟩
      · exact ht n x1 y1 H1 (e.trans e1) h1 h2
      · exact fun hf => he n x1 y1 H1 (e.trans e1) h1 h2 hf)
    (fun H' p => q Dl H' (fresh_back e1 p.1) (e1.trans p.2.1) p.2.2)⟩
end LO

set_option Elab.async false
set_option linter.all false
set_option maxRecDepth 100000
set_option maxHeartbeats 4000000
namespace LN
open PySem PySem.Spec PyProof.Rows L2 Evl LT LG LS LQ
section
variable {X : Cx} {σ : L2.St} {H : Hp} {P : Addr} {scope : Scope} {x : Str} {u : Value} {a b c : Expr} {za zb zc z : V} {pos p : Pos}
theorem qv_ixL {l : Addr} {xs : List V} {i : Int} (hT : Tab H P) (hq : SqL X.K H l xs) (he : atI xs i = some z) (h0 : 0 ≤ i) (ha : QV X σ H P scope x u a (.ref l)) (hb : QV X σ H P scope x u b (.int i)) (hs : PlainIx b := by intro _ _; rfl) : QV X σ H P scope x u (.Subscript a b pos) z := fun cenv A' E' s m F =>
  Subscript_ (qv_two (f := fun v w => subscriptTail a b v w) ha hb (fun cenv A' E' s2 m2 v w F2 r1 r2 => by
    cases r1
    obtain ⟨t, rfl⟩ := r2
    obtain ⟨its, r, pl, hz⟩ := F2.list hT hq
    obtain ⟨j, h1, h2, h3, h4, h5⟩ := atI_get he
    obtain ⟨w', ew, rw'⟩ := r.get h2
    have hl := r.length
    have hn := line63
    have hj : i.toNat = j := by
      rw [seqIndex_of h0 h5] at h1
      exact Option.some.inj h1
    exact item_listR pl.isList h0 (by omega) (by rw [hj]; simpa using ew) ⟨rw', kp_refl _⟩ (hs _ _)) cenv A' E' s m F)
theorem qv_ixT {l : Addr} {xs : List V} {i : Int} (hT : Tab H P) (hq : SqT X.K H l xs) (he : atI xs i = some z) (ha : QV X σ H P scope x u a (.ref l)) (hb : QV X σ H P scope x u b (.int i)) (hs : PlainIx b := by intro _ _; rfl) : QV X σ H P scope x u (.Subscript a b pos) z := fun cenv A' E' s m F =>
  Subscript_ (qv_two (f := fun v w => subscriptTail a b v w) ha hb (fun cenv A' E' s2 m2 v w F2 r1 r2 => by
    cases r1
    obtain ⟨t, rfl⟩ := r2
    obtain ⟨its, r, pl, hz⟩ := F2.tuple hT hq
    obtain ⟨j, h1, h2, h3, h4, h5⟩ := atI_get he
    obtain ⟨w', ew, rw'⟩ := r.get h2
    have hl := r.length
    have hn := line63
    exact subscriptTail_builtinR (x := w') pl.typeIs slot_tuple_getitem.lookup
      (getItem_tuple (j := j) (Q := fun r s' => r = w' ∧ (RelV z r ∧ Keeps s2 s')) pl (by omega) (by omega) (by rw [List.size_toArray, ← hl]; exact h1) (by simpa using ew) ⟨rfl, rw', kp_refl _⟩) (hs _ _)) cenv A' E' s m F)
theorem qr_ltT {l r : Addr} {ns ms : List Int} (hT : Tab H P) (hu : X.A.units + 8 < cLine) (ha : SqT X.K H l (ns.map V.int)) (hb : SqT X.K H r (ms.map V.int)) : QR X σ H P scope x u (compareOp .Lt) (.ref l) (.ref r) (.bl (HT.lexLt ns ms)) := fun cenv A' E' s m v w F r1 r2 => by
  cases r1
  cases r2
  obtain ⟨its, r1, p1, _⟩ := F.tuple hT ha
  obtain ⟨its2, r2, p2, _⟩ := F.tuple hT hb
  have i1 : IntsAre its.toArray.toList ns := intsAre_of r1
  have i2 : IntsAre its2.toArray.toList ms := intsAre_of r2
  exact HT.lt_tupInts p1 p2 i1 i2 (Nat.lt_of_le_of_lt F.un hu) ⟨rfl, kp_refl _⟩
theorem qr_lt_int {i j : Int} : QR X σ H P scope x u (compareOp .Lt) (.int i) (.int j) (.bl (decide (i < j))) := fun cenv A' E' s m v w F r1 r2 => by
  obtain ⟨t, rfl⟩ := r1
  obtain ⟨t', rfl⟩ := r2
  exact lt_int ⟨rfl, kp_refl _⟩
theorem qv_chain {op op' : CmpOp} {f g : Bool} (hr : QR X σ H P scope x u (compareOp op) za zb (.bl f)) (hr' : QR X σ H P scope x u (compareOp op') zb zc (.bl g)) (ha : QV X σ H P scope x u a za) (hb : QV X σ H P scope x u b zb) (hc : QV X σ H P scope x u c zc)
    (hm : lastMarks [op, op'] [b, c] = false := by with_unfolding_all rfl) : QV X σ H P scope x u (.Compare a [op, op'] [b, c] pos) (.bl (f && g)) := fun cenv A' E' s m F => by
  refine Compare_chain (wpAny_mono (ha cenv A' E' s m F) (fun v s1 r1 => chain_link (wpAny_mono (hb cenv A' E' s1 m (F.keeps r1.2)) (fun w s2 r2 => wpAny_mono (hr cenv A' E' s2 m v w ((F.keeps r1.2).keeps r2.2) r1.1 r2.1) (fun d s3 r3 => ?_) fun _ _ e => e) fun _ _ e => e)) fun _ _ e => e) hm
  obtain ⟨rfl, k3⟩ := r3
  have k := kp_trans (kp_trans r1.2 r2.2) k3
  refine wpAny_truthy_bool ?_
  cases f with
  | false => exact ite_ff ⟨rfl, k⟩
  | true => exact ite_tt (chain_last (wpAny_mono (hc cenv A' E' s3 m (F.keeps k)) (fun y s4 r4 => wpAny_mono (hr' cenv A' E' s4 m w y ((F.keeps k).keeps r4.2) r2.1 r4.1) (fun e s5 r5 => ⟨r5.1, kp_trans (kp_trans k r4.2) r5.2⟩) fun _ _ e => e) fun _ _ e => e))
/-- an own def of one argument, a pair that it unpacks; it returns one test of each part -/
theorem qv_call2 {nm pn qual ya yb : Str} {st : Stmt} {f : Addr} {fd : FuncData} {N : List Str} {e1 e2 : Expr} {py1 py2 tp np ap bp rp : Pos} {kt k : Nat} {t : Addr} {v1 v2 : V} {c1 c2 : Bool} (hr : Room k X.A) (hT : Tab H P) (hk : scope.kind = .function) (hl : scope.names.lookup nm = some .globalImplicit) (hm : X.mg nm = some (.ref f)) (F : Fun X.K nm qual st f fd)
    (hbody : defBody st = [.Assign [.Tuple [.Name ya py1, .Name yb py2] kt tp] (.Name pn np) ap, .Return (some (.BoolOp .And [e1, e2] bp)) rp]) (S : FnScope N [pn] (defScope st)) (hloc : (defScope st).names.lookup pn = some .local) (hla : (defScope st).names.lookup ya = some .local) (hlb : (defScope st).names.lookup yb = some .local) (hab : ya ≠ yb)
    (hb : Binds X.K fd [pn] []) (ha : QV X σ H P scope x u a (.ref t)) (ht : SqT X.K H t [v1, v2])
    (h1 : ∀ (A0 : Around) (v : Value), RelV v1 v → QV { X with A := A0 } σ H P (defScope st) ya v e1 (.bl c1)) (h2 : ∀ (A0 : Around) (v : Value), RelV v2 v → QV { X with A := A0 } σ H P (defScope st) yb v e2 (.bl c2))
    (hs : ∀ env, starEach [a] env = (false, eval a env) :: starEach [] env := by intro _; rfl) (hd : (nm == ("__debug__" : Str)) = false := by decide) (hdp : (pn == ("__debug__" : Str)) = false := by decide) :
    QV X σ H P scope x u (.Call (.Name nm p) [a] [] pos) (.bl (c1 && c2)) := fun cenv A' E' s m Fc0 => by
  refine wpAny_Call_Name_kw (Calls.Name_function_global (by rw [Fc0.sc]; exact hk) (show cenv.scope.names.lookup nm = some .globalImplicit by rw [Fc0.sc]; exact hl) (Calls.loadGlobal_global (by rw [Fc0.gl]; exact Fc0.md.glob.keeps Fc0.base) hm ?_) hd)
  refine PySem.W.callWith_K (h₀ := X.base) Fc0.md.kin F.kp ?_ (hs cenv) (by rfl)
  rw [hs cenv]
  show wpAny _ _ (spliced ((false, eval a cenv) :: [])) _ _ s
  refine Calls.spliced_cons (wpAny_mono (ha cenv A' E' s m Fc0) (fun v s1 r1 => Calls.spliced_nil ?_) fun _ _ e => e)
  have F1 := Fc0.keeps r1.2
  refine ⟨F1.kin, ?_⟩
  obtain ⟨oc, od, kV, doc, pm, an, cdv, ct, osl, rfl, lk, hcd⟩ := F.ex
  have rv := r1.1
  refine wpAny_call (Att.call_fn (binds := [(pn, v)]) F1.kin (F1.md.nolimit.keeps F1.base) lk hcd (by have := hr.dp; have := Fc0.dp; omega) (hb s1 [v] F1.kin rfl) ?_ (fun s2 IC => ?_) S.co S.gen S.kind)
  · simp only [List.all_cons, List.all_nil, Bool.and_true, Bool.or_eq_true, beq_iff_eq]
    exact .inl hloc
  · obtain ⟨h2', tk2, rfl⟩ := IC.toInCall.same
    have kk : ∀ b o, s1.heap.get? b = some o → h2'.get? b = some o := IC.toInCall.keep
    rw [hbody]
    have Fn : Fc { X with A := A' } σ H P (defScope st) pn v (envOfC qual (defScope st) s1.heap.objs.size f cdv) (A'.deeper (envOfC qual (defScope st) s1.heap.objs.size f cdv)) { s1 with heap := h2', toks := tk2 } _ :=
      ⟨Fc0.hd, Nat.le_refl _, by show A'.units + 3 ≤ A'.units + 8; omega, rfl, rfl, rfl, IC.toInCall.ns, by
        show bindL _ [(pn, v)] _ pn = some v
        unfold bindL
        have hkd : (envOfC qual (defScope st) s1.heap.objs.size f cdv).kindOf pn = some .local := hloc
        rw [hkd]
        simp [bindL], fun b o e => kk b o (F1.base b o e), F1.md, F1.hok.kept kk, fun i y w h1 h2 h3 h4 => absurd rfl (S.nofree (y, .free) (lookup_mem' h4))⟩
    cases rv
    obtain ⟨its, ri, tup, _⟩ := Fn.tuple hT ht
    cases ri with
    | cons ra rr =>
      rename_i w1 wr
      cases rr with
      | cons rb rn =>
        rename_i w2 wn
        cases rn
        refine wpAny_execs_cons (Assign_Tuple (wpAny_mono (qv_x (X := { X with A := A' }) S.kind hloc (show RelV (.ref t) (.ref t) from rfl) hdp _ _ _ _ _ Fn) (fun y s3 r3 => ?_) fun _ _ e => e))
        obtain ⟨ry, h3, tk3, rfl, k3⟩ := r3
        cases ry
        refine assign_Tuple_tuple Fn.hd (tup.keeps k3) (by rfl) (by rfl) fun h4 hx4 => ?_
        have kL : ∀ b o, s1.heap.get? b = some o → b ≠ s1.heap.objs.size := fun b o e => Nat.ne_of_lt (Heap.lt_size e)
        have kx : ∀ b o, h3.get? b = some o → h4.get? b = some o := fun b o e => hx4 b o (Nat.ne_of_lt (Heap.lt_size e)) e
        have n4 := ((Fn.keeps ⟨h3, tk3, rfl, k3⟩).keeps (s₃ := { s1 with heap := h4, toks := tk3 }) ⟨h4, tk3, rfl, kx⟩).ns
        refine assignInOrder_cons (assign_Name (wpAny_storeName_local hla n4 (fun h5 n5 b5 => ?_) (by simp [envOfC, S.kind])))
        refine assignInOrder_cons (assign_Name (wpAny_storeName_local hlb n5 (fun h6 n6 b6 => ?_) (by simp [envOfC, S.kind])))
        refine assignInOrder_nil ?_
        have k6 : ∀ b o, s1.heap.get? b = some o → h6.get? b = some o := fun b o e => b6.extBut b o (kL b o e) (b5.extBut b o (kL b o e) (kx b o (k3 b o (kk b o e))))
        have FF : ∀ (y : Str) (w : Value), (if y = yb then some w2 else if y = ya then some w1 else none) = some w → Fc { X with A := A' } σ H P (defScope st) y w (envOfC qual (defScope st) s1.heap.objs.size f cdv) (A'.deeper (envOfC qual (defScope st) s1.heap.objs.size f cdv)) { s1 with heap := h6, toks := tk3 + 1 + 1 } _ := fun y w e => by
          refine ⟨Fc0.hd, Nat.le_refl _, (by show A'.units + 3 ≤ A'.units + 8; omega), rfl, rfl, rfl, n6, ?_, fun b o e => k6 b o (F1.base b o e), F1.md, F1.hok.kept k6, fun i y w h1 h2 h3 h4 => absurd rfl (S.nofree (y, .free) (lookup_mem' h4))⟩
          show (if y = yb then some w2 else if y = ya then some w1 else _) = some w
          by_cases q1 : y = yb
          · rw [if_pos q1] at e ⊢
            exact e
          · rw [if_neg q1] at e ⊢
            by_cases q2 : y = ya
            · rw [if_pos q2] at e ⊢
              exact e
            · rw [if_neg q2] at e
              cases e
        refine wpAny_execs_cons (wpAny_Return_some (BoolOp_and (wpAny_mono (h1 A' w1 ra _ _ _ _ _ (FF ya w1 (by rw [if_neg hab, if_pos rfl]))) (fun y s7 r7 => ?_) fun _ _ e => e)))
        obtain ⟨rfl, k7⟩ := r7
        refine wpAny_truthy_bool ?_
        have kA := kp_trans r1.2 (kp_trans (s1 := { s1 with heap := h6, toks := tk3 + 1 + 1 }) ⟨h6, _, rfl, k6⟩ k7)
        cases c1 with
        | true => exact BoolOp_one (wpAny_mono (h2 A' w2 rb _ _ _ _ _ ((FF yb w2 (if_pos rfl)).keeps k7)) (fun y s8 r8 => ⟨r8.1, kp_trans kA r8.2⟩) fun _ _ e => e)
        | false => exact ⟨rfl, kA⟩
end
/-! ### a list of pairs is walked -/
def SrcT (K : PySem.W.Frag) (H : Hp) (v : V) (n : Nat) (xs : Nat → V) : Prop := ∃ (a : Addr) (l : List V), v = .ref a ∧ SqL K H a l ∧ n = l.length ∧ ∀ i, i < n → ∃ (T : Addr) (y : V), l[i]? = some (.ref T) ∧ SqT K H T [y, xs i]
section
variable {X : Cx} {pins : List (Addr × Obj)} {σ : L2.St} {H : Hp} {s : Shared}
theorem src_iterT {v : V} {xv : Value} {n : Nat} {xs : Nat → V} {P : Addr} {Q : Value → Shared → Prop} {E : Value → Shared → Prop} (S : SrcT X.K H v n xs) (I : Inv X pins σ H s) (r : RelV v xv) (hT : Tab H P)
    (h : ∀ (o : Obj) (fp : List Addr) (Pf : Nat → Array Value → Prop) (St : Nat → Heap → Prop) (Mid : Nat → Addr → Heap → Prop), (∀ i va vb, Pf i #[va, vb] → i < n ∧ RelV (xs i) vb) → (∀ A' : Around, A'.handled = none → WalksU X.prog X.w A' s.heap.objs.size fp [s.heap.objs.size] n Pf St Mid) → (∀ i vals, Pf i vals → ∃ va vb, vals = #[va, vb]) →
      St 0 (s.heap.push o) → (∀ b ∈ fp, b ≤ s.heap.objs.size ∧ b ≠ P) → Q (.ref s.heap.objs.size) { s with heap := s.heap.push o }) : wpAny (model X.prog X.w) X.A (pyIter xv) Q E s := by
  have Plt : P < s.heap.objs.size := Heap.lt_size (hT.of_ok I.hok).choose_spec.1
  have szP : s.heap.objs.size ≠ P := fun z => Nat.lt_irrefl _ (z ▸ Plt : s.heap.objs.size < s.heap.objs.size)
  obtain ⟨a, l, rfl, hl, rfl, hx⟩ := S
  cases r
  obtain ⟨its, rv, pl, _⟩ := I.list hl
  have hal : a < s.heap.objs.size := let ⟨_, e, _⟩ := pl.isList; Heap.lt_size e
  have naP : a ≠ P := fun e => by
    obtain ⟨ps, e1, _⟩ := hT.of_ok I.hok
    obtain ⟨o, n, e2, e3, _, e4⟩ := pl
    rw [e, e1] at e2
    cases e2
    cases e3
  have hne : a ≠ s.heap.objs.size := Nat.ne_of_lt hal
  have en : its.toArray.size = l.length := by rw [List.size_toArray]; exact rv.length.symm
  have ev : ∀ i : Nat, ∃ (T : Addr) (va vb : Value), i < l.length → its.toArray[i]? = some (.ref T) ∧ IsTup s.heap T #[va, vb] ∧ RelV (xs i) vb := fun i => by
    by_cases hi : i < l.length
    · obtain ⟨T, y, e1, e2⟩ := hx i hi
      obtain ⟨w, ew, rw'⟩ := rv.get e1
      cases rw'
      obtain ⟨js, rj, tj, _⟩ := I.tuple e2
      cases rj with
      | cons ra rr =>
        rename_i w1 wr
        cases rr with
        | cons rb rn =>
          rename_i w2 wn
          cases rn
          exact ⟨T, w1, w2, fun _ => ⟨by simpa using ew, tj, rb⟩⟩
    · exact ⟨0, .none, .none, fun h => absurd h hi⟩
  refine wpAny_pyIter_list pl.isList ?_
  let Ts : Nat → Addr := fun i => (ev i).choose
  let va : Nat → Value := fun i => (ev i).choose_spec.choose
  let vb : Nat → Value := fun i => (ev i).choose_spec.choose_spec.choose
  have sp : ∀ i, i < l.length → its.toArray[i]? = some (.ref (Ts i)) ∧ IsTup s.heap (Ts i) #[va i, vb i] ∧ RelV (xs i) (vb i) := fun i => (ev i).choose_spec.choose_spec.choose_spec
  have tlt : ∀ i, i < l.length → Ts i < s.heap.objs.size := fun i hi => (sp i hi).2.1.lt
  have tnP : ∀ i, i < l.length → Ts i ≠ P := fun i hi e => by
    obtain ⟨ps, e1, _⟩ := hT.of_ok I.hok
    obtain ⟨o, e2, e3, _⟩ := (sp i hi).2.1
    rw [e, e1] at e2
    cases e2
    cases e3
  refine h _ (s.heap.objs.size :: a :: (List.range its.toArray.size).map Ts) (fun j v => j < l.length ∧ v = #[va j, vb j]) (fun j h => h.IsListIter s.heap.objs.size a j ∧ h.IsList a its.toArray ∧ ∀ k, k < its.toArray.size → h.IsTuple (Ts k) #[va k, vb k]) (fun j T h => (j < its.toArray.size ∧ T = Ts j) ∧ h.IsListIter s.heap.objs.size a (j + 1) ∧ h.IsList a its.toArray ∧ ∀ k, k < its.toArray.size → h.IsTuple (Ts k) #[va k, vb k]) (fun i wa wb hp => ?_) (fun A' hA => ?_) (fun i vals hp => ⟨_, _, hp.2⟩) ⟨⟨_, Heap.get?_push_size _ rfl, rfl, rfl⟩, pl.isList.at fun o e => Heap.get?_push_of_some _ e, fun k hk => ?_⟩ fun b hb => ?_
  · obtain ⟨hi, e⟩ := hp
    have e2 : wb = vb i := (by simpa using congrArg Array.toList e : wa = va i ∧ wb = vb i).2
    rw [e2]
    exact ⟨hi, (sp i hi).2.2⟩
  · have W := WalksU.listOfTuples (prog := X.prog) (w := X.w) hA s.heap.objs.size a hne its.toArray Ts (fun i => #[va i, vb i]) (fun j hj => (sp j (by rw [← en]; exact hj)).1) (fun j hj => Nat.ne_of_lt (tlt j (by rw [← en]; exact hj)))
    rw [← en]
    exact ⟨W.sub, W.frame, fun i s Q E hi st hQ => W.item i s Q E hi st fun T vals h' tk hv => hQ T vals h' tk ⟨hi, hv⟩, W.go, W.apart, W.done, W.self⟩
  · exact Heap.IsTuple.at ((sp k (by rw [← en]; exact hk)).2.1) fun o e => Heap.get?_push_of_some _ e
  · rcases List.mem_cons.mp hb with e | hb
    · rw [e]
      exact ⟨Nat.le_refl _, szP⟩
    · rcases List.mem_cons.mp hb with e | hb
      · rw [e]
        exact ⟨Nat.le_of_lt hal, naP⟩
      · obtain ⟨i, hi, rfl⟩ := List.mem_map.mp hb
        have hi' : i < l.length := by rw [← en]; exact List.mem_range.mp hi
        exact ⟨Nat.le_of_lt (tlt i hi'), tnP i hi'⟩
theorem gen_makeT {c P : Addr} {elt iter : Expr} {xa x : Str} {pa px pt gpos : Pos} {kt : Nat} {scope : Scope} {te : TE} {k : Nat} {Q' : Value → Shared → Prop} {R : Nat → (Nat → Bool) → Hp → Prop}
    (hr : Room k X.A) (TB : LamX.TabB X.base X.mg c P) (hcode : X.env.code = .ref c) (S : GxR.GenS X.env scope x) (hxa : scope.names.lookup xa = some .local) (hab : xa ≠ x) (hi : PE X iter te) (hs : ∀ v, genFold iter X.env v = pure v) (I : Inv X pins σ H s)
    (h : te σ H fun v H1 => Tab H1 P ∧ ∃ (n : Nat) (xs : Nat → V) (f : Nat → Bool), SrcT X.K H1 v n xs ∧ (∀ i u, i < n → RelV (xs i) u → QV X σ H1 P scope x u elt (.bl (f i))) ∧ R n f H1)
    (hQ : ∀ n f H1 g s5, R n f H1 → RdyG X pins σ H1 n f g s5 → Q' (.ref g) s5) :
    wpAny (model X.prog X.w) X.A (eval (.GeneratorExp elt [⟨.Tuple [.Name xa pa, .Name x px] kt pt, iter, [], 0⟩] scope gpos) X.env) Q' X.xe s := by
  refine wpAny_GeneratorExp_walksQTD hr.hd S.co (closure_ok S.free) S.cell S.dot hxa S.loc hab S.kind hr.depth ?_ hs
  refine thn (hi.run pins s σ H _ I h) fun xv s1 ⟨v, H1, I1, r1, hT, n, xs, f, hsrc, hel, hR⟩ => ?_
  refine src_iterT hsrc I1 r1 hT fun o fp Pf St Mid hPf hW hsz2 hst hfp => ?_
  obtain ⟨ps, hPs, ht⟩ := hT.of_ok I1.hok
  have hPlt : P < s1.heap.objs.size := Heap.lt_size hPs
  have hP2 : (s1.heap.push o).get? P = some { cls := .none, data := .fields ps } := Heap.get?_push_of_some _ hPs
  have cd : PySem.W.CodeHd (s1.heap.push o) c P := TB.code.keeps fun b u e => Heap.get?_push_of_some _ (I1.bk b u e)
  have lim2 : (s1.heap.push o).NoLimit := I1.nolimit.push o
  have hcP : cStatics ≠ P := fun e => by
    obtain ⟨_, ⟨o', es, ep, ho, hd, _⟩, _⟩ := I1.nolimit
    rw [e, hPs] at ho
    cases ho
    cases hd
  have hcl : cStatics < s1.heap.objs.size := let ⟨_, hns, _⟩ := I1.nolimit; hns.lt
  have sz2 : (s1.heap.push o).objs.size = s1.heap.objs.size + 1 := Heap.size_push ..
  have nTb : ∀ b, H1 b = none → b ≠ P := fun b e z => by
    rw [z, hT] at e
    cases e
  -- what is left once the code object is known
  have go : ∀ (code : Value) (h3 : Heap) (tk : Nat) (ps' : Array Value), Heap.ExtBut P (s1.heap.push o) h3 → (s1.heap.push o).objs.size ≤ h3.objs.size → h3.get? P = some { cls := .none, data := .fields ps' } → TriplesOk ps'.toList →
      wpAny (model X.prog X.w) X.A (builtinsFor X.env.globals X.env.builtins) (fun bi s₄ => ∃ I fp wr n₀ Pg St₀ Mid pz F, Value.ref s1.heap.objs.size = .ref I ∧ (∀ A' : Around, A'.handled = none → WalksU X.prog X.w A' I fp wr n₀ Pg St₀ Mid) ∧ (∀ i vals, Pg i vals → ∃ va vb, vals = #[va, vb]) ∧ St₀ 0 s₄.heap ∧ (∀ b ∈ fp, b < s₄.heap.objs.size) ∧ s₄.heap.NoLimit ∧ cStatics ∉ wr ∧
          (∀ href : Heap, (∀ b o, s₄.heap.get? b = some o → href.get? b = some o) → QuietGenTD X.prog X.w (genEnv scope (cloFrom X.env.cells scope.names []) s₄.heap.objs.size code bi X.env) xa x [] elt (List.range s₄.heap.objs.size) wr Pg pz F href (X.A.depth + 1) (X.A.units + 8)) ∧
          (∀ a h₅ tk gs, gs.bare = true → s₄.heap.objs.size < a → h₅.objs.size = a + 1 → (∀ b o, s₄.heap.get? b = some o → h₅.get? b = some o) →
            WalksS X.prog X.w X.A.in4 a (a :: s₄.heap.objs.size :: List.range s₄.heap.objs.size) (s₄.heap.objs.size :: wr) (GenOnlyQ s₄.gens.size) (passing pz n₀ 0).length (fun j y => ∃ i, (passing pz n₀ 0)[j]? = some i ∧ F i y) (GenAt X.prog X.w X.A.in4 a s₄.gens.size s₄.heap.objs.size (List.range s₄.heap.objs.size) wr pz n₀ F) →
            GenAt X.prog X.w X.A.in4 a s₄.gens.size s₄.heap.objs.size (List.range s₄.heap.objs.size) wr pz n₀ F 0 { s₄ with gens := s₄.gens.push gs, toks := tk, heap := h₅ } →
            Q' (.ref a) { s₄ with gens := s₄.gens.push gs, toks := tk, heap := h₅ })) X.xe { s1 with heap := h3, toks := tk } := by
    intro code h3 tk ps' hx hsz hP3 ht3
    obtain ⟨bm, ob, e1, e2, e3, e4, e5, e6, e7, e8⟩ := TB.bm
    have keep3 : ∀ b u, b ≠ P → s1.heap.get? b = some u → h3.get? b = some u := fun b u hb e => hx b u hb (Heap.get?_push_of_some _ e)
    refine wpAny_builtinsFor (m := X.mg) (by rw [I1.ok.glob]; exact ((I1.mod.glob.keeps I1.bk).push o).extBut hx TB.gP) e1 e2 (keep3 _ _ e4 (I1.bk _ _ e5)) e6 e7 e8 ?_
    have hsz3 : s1.heap.objs.size < h3.objs.size := by omega
    refine ⟨s1.heap.objs.size, fp, [s1.heap.objs.size], n, Pf, St, Mid, fun _ => true, fun i y => y = .bool (f i), rfl, hW, hsz2, ?_, fun b hb => Nat.lt_of_le_of_lt (hfp b hb).1 hsz3, lim2.extBut hx hcP, ?_, ?_, ?_⟩
    · exact (hW X.A hr.hd).frame _ _ _ hst fun b hb u e => hx b u (hfp b hb).2 e
    · intro z
      rw [List.mem_singleton.mp z] at hcl
      exact Nat.lt_irrefl _ hcl
    · intro href hhref
      refine ⟨fun A' E' i va v s₂ m₂ hA hD hU hPv hn hma hm hk => ?_, fun A' E' i va v s₂ m₂ hA hD hU hPv hp hn hma hm hk => ?_⟩
      · simp only [List.forIn_nil]
        exact wpAny_pure ⟨rfl, kp_refl _⟩
      · have kept : ∀ b u, b ≠ P → s1.heap.get? b = some u → s₂.heap.get? b = some u := fun b u hb e => by
          have hlt := Heap.lt_size e
          refine hk b (List.mem_range.mpr ?_) (fun z => ?_) u (hhref b u (keep3 b u hb e))
          · show b < h3.objs.size
            exact Nat.lt_trans hlt hsz3
          · rw [List.mem_singleton.mp z] at hlt
            exact Nat.lt_irrefl _ hlt
        refine wpAny_mono (hel i v (hPf i va v hPv).1 (hPf i va v hPv).2 _ A' E' s₂ m₂ ⟨hA, hD, hU, rfl, I1.ok.glob, rfl, hn, hm, fun b u e => kept b u (nTb b (I1.bs b u e).2) (I1.bk b u e), I1.mod, fun b u e => ?_, fun j y w hN hσ hv hfr => ?_⟩) (fun y s3 r => ⟨r.1, r.2⟩) fun _ _ e => e
        · have hb : b ≠ P := fun z => by
            rw [z] at e
            unfold but at e
            rw [if_pos rfl] at e
            cases e
          rw [but_ne hb] at e
          refine (I1.hok b u e).stay (fun d w hd q => kept d w ?_ q) (fun d q => ?_) fun d ys q => ?_
          · rcases hd with z | z
            · rw [z]
              exact hb
            · intro e2
              rw [e2, hT] at z
              cases z
          · rw [but_ne fun e2 => by rw [e2, hT] at q; cases q]
            exact q
          · rw [but_ne fun e2 => by rw [e2, hT] at q; cases q]
            exact q
        · obtain ⟨m, hn1, hl⟩ := I1.loc
          obtain ⟨r, rv, l⟩ := hl j y w hN hσ (hv.elim (fun z => Or.inr (Or.inl z)) (fun z => Or.inr (Or.inr z)))
          rcases l with ⟨z, _⟩ | ⟨_, cc, hc, oc, he, hd⟩
          · rcases hv with z2 | z2
            · rw [z] at z2; cases z2
            · rw [z] at z2; cases z2
          · exact ⟨r, cc, rv, clo_lookup (lookup_mem' hfr) hc, oc, kept cc oc (nTb cc (I1.freeC y cc hc)) he, hd⟩
    · intro g h5 tk5 gs hgb hag hsz5 hk5 W5 hat
      simp only [GxR.passing_true, List.length_range] at W5
      refine hQ n f H1 g _ hR ⟨_, _, _, _, _, W5.in4_1, hat, fun j y sj Qj Ej hy hQj => ?_, fun s' hm => ?_⟩
      · obtain ⟨i, hij, rfl⟩ := hy
        obtain ⟨hj, ej⟩ := List.getElem?_eq_some_iff.mp hij
        rw [List.getElem_range] at ej
        subst ej
        exact wpAny_truthy_bool hQj
      · have nwr : ∀ b u, s1.heap.get? b = some u → b ∉ h3.objs.size :: [s1.heap.objs.size] := fun b u e hb => by
          have hl := Heap.lt_size e
          rcases List.mem_cons.mp hb with z | z
          · rw [z] at hl
            exact Nat.lt_irrefl _ (Nat.lt_trans hl hsz3)
          · rw [List.mem_singleton.mp z] at hl
            exact Nat.lt_irrefl _ hl
        exact inv_grown I1 hT (fun b u hb e => hm.heap b u (nwr b u e) (hk5 b u (keep3 b u hb e))) ⟨ps', hm.heap P _ (nwr P _ hPs) (hk5 P _ hP3), ht3⟩ hm.os (AllBare.movedS (I1.bare.push hgb) hm)
  refine ⟨lim2, ?_⟩
  cases hf : codeAmong gpos ps.toList with
  | some cv => exact wpAny_genexprCode_hit hcode (cd.code hP2 ht) hf (go cv (s1.heap.push o) s1.toks ps (Heap.ExtBut.refl _ _) (Nat.le_refl _) hP2 ht)
  | none =>
    refine wpAny_genexprCodeX hcode (cd.code hP2 ht) (cd.tab hP2) hf fun c' h' tk hx hge hlt hco' _ htab' _ => ?_
    obtain ⟨_, _, _, _, _, _, _, _, _, _, _, _, _, _, _, _, _, _, _, htr, _⟩ := hco'
    exact go _ h' tk _ hx (Nat.le_trans hge (Nat.le_of_lt hlt)) htab'.2 htr
def tGenT (X : Cx) (P : Addr) (scope : Scope) (x : Str) (elt : Expr) (fin : Nat → (Nat → Bool) → Bool) (te : TE) : TE := fun σ H Q => te σ H fun v H1 => Tab H1 P ∧ ∃ (n : Nat) (xs : Nat → V) (f : Nat → Bool), SrcT X.K H1 v n xs ∧ (∀ i u, i < n → RelV (xs i) u → QV X σ H1 P scope x u elt (.bl (f i))) ∧ Q (.bl (fin n f)) H1
theorem pe_allT {c P : Addr} {elt iter : Expr} {xa x : Str} {pa px pt p pos gpos : Pos} {kt : Nat} {scope : Scope} {te : TE} {k : Nat} (hr : Room k X.A) (hg : Gl X "all") (hm : X.mg "all" = none) (hb : bootBuiltins "all" = some (.builtin "all")) (TB : LamX.TabB X.base X.mg c P) (hcode : X.env.code = .ref c) (S : GxR.GenS X.env scope x) (hxa : scope.names.lookup xa = some .local) (hab : xa ≠ x)
    (hi : PE X iter te) (hs : ∀ v, genFold iter X.env v = pure v)
    (he : starEach [.GeneratorExp elt [⟨.Tuple [.Name xa pa, .Name x px] kt pt, iter, [], 0⟩] scope gpos] X.env = (false, eval (.GeneratorExp elt [⟨.Tuple [.Name xa pa, .Name x px] kt pt, iter, [], 0⟩] scope gpos) X.env) :: starEach [] X.env := by rfl) :
    PE X (.Call (.Name "all" p) [.GeneratorExp elt [⟨.Tuple [.Name xa pa, .Name x px] kt pt, iter, [], 0⟩] scope gpos] [] pos) (tGenT X P scope x elt allF te) := by
  refine ⟨fun pins s σ H Q I h => wpAny_Call_Name_kw (ld_blt I hg hm hb (PyProof.Rows.callWith_builtin1 ?_ he (by rfl)))⟩
  rw [he]
  show wpAny _ _ (spliced ((false, eval (.GeneratorExp elt [⟨.Tuple [.Name xa pa, .Name x px] kt pt, iter, [], 0⟩] scope gpos) X.env) :: backTo pos (starEach [] X.env))) _ _ s
  refine Calls.spliced_cons (gen_makeT (R := fun n f H1 => Q (.bl (allF n f)) H1) hr TB hcode S hxa hab hi hs I h fun n f H1 g s5 hR ⟨fp, wr, G, F, St₁, W, hst, htr, hI⟩ => Calls.spliced_nil ?_)
  exact call_all_walkS (W.self 0 _ _ _ hst ⟨g, fp, wr, G, _, F, St₁, _, rfl, W, hst, htr, fun s' hmv => ⟨.bl _, H1, hI s' hmv, rfl, hR⟩⟩)
end
section
variable {X : Cx}
theorem cr_range1 : CallR X (.type "range") (fun vs H Q => ∃ i, vs = [V.int i] ∧ ∀ p, H p = none → Q (.ref p) (upd H p (.rng 0 i))) := by
  intro pins s σ H vs us Q I r h
  obtain ⟨i, rfl, q⟩ := h
  cases r with
  | cons ri rn =>
    cases rn
    obtain ⟨t, rfl⟩ := ri
    refine call_range_1 ⟨.ref s.heap.objs.size, upd H s.heap.objs.size (.rng 0 i), I.laid (t' := _) (fun b o e => Heap.get?_push_of_some _ e) (Nat.le_refl _) ?_, rfl, q _ (I.hok.fresh (Nat.le_refl _))⟩
    exact ⟨_, _, _, Heap.get?_push_size _ rfl⟩
end
section
variable {K : PySem.W.Frag} {σ : L2.St} {H : Hp} {ta tb tc te : TE}
theorem ev_chain {f g : Int → Int → Bool} {i j k : Int} (ha : Ev ta σ H (.int i)) (hb : Ev tb σ H (.int j)) (hc : Ev tc σ H (.int k)) : Ev (tChain (rI0 fun i j => .bl (f i j)) (rI0 fun i j => .bl (g i j)) ta tb tc) σ H (.bl (f i j && g j k)) := fun H1 e Q q =>
  ha H1 e _ fun H2 e2 => hb H2 (e.trans e2) _ fun H3 e3 => ⟨i, j, rfl, rfl, f i j, rfl, by
    cases hf : f i j with
    | true =>
      rw [if_pos rfl]
      refine hc H3 ((e.trans e2).trans e3) _ fun H4 e4 => ⟨j, k, rfl, rfl, ?_⟩
      have := q H4 ((e2.trans e3).trans e4)
      rw [hf] at this
      exact this
    | false =>
      rw [if_neg Bool.false_ne_true]
      have := q H3 (e2.trans e3)
      rw [hf] at this
      exact this⟩
variable {X : Cx} {P : Addr} {scope : Scope} {x : Str} {elt : Expr} {fin : Nat → (Nat → Bool) → Bool}
/-- a generator expression over range(n) -/
theorem ev_genR {n : Int} {f : Nat → Bool} (h : Ev te σ H (.int n)) (hb : -(2 ^ 62) ≤ n ∧ n < 2 ^ 62) (hT : Tab H P) (he : ∀ H1, Ex H H1 → ∀ (i : Nat) u, (i : Int) < n → RelV (.int (i : Int)) u → QV X σ H1 P scope x u elt (.bl (f i))) :
    Ev (tGen X P scope x elt fin (tCB (fun vs H Q => ∃ i, vs = [V.int i] ∧ ∀ p, H p = none → Q (.ref p) (upd H p (.rng 0 i))) (tCons te tNil))) σ H (.bl (fin n.toNat f)) := fun H1 e Q q =>
  h H1 e _ fun H2 e2 => ⟨n, rfl, fun p hp => by
    have e3 := Ex.new (o := HO.rng 0 n) hp
    refine ⟨((hT.mono e).mono e2).mono e3, n.toNat, fun i => .int (0 + (i : Int)), f, .inr (.inr ⟨p, 0, n, rfl, upd_same, by rw [Int.sub_zero], by decide, by decide, hb.1, hb.2, fun i => rfl⟩), fun i u hi hu => he _ ((e.trans e2).trans e3) i u (by omega) (by have hu2 : RelV (.int (0 + (i : Int))) u := hu; rw [Int.zero_add] at hu2; exact hu2), q _ (e2.trans e3)⟩⟩
/-- a generator expression over a new list -/
theorem ev_genL {xs : List V} {f : Nat → Bool} (h : EvL te σ H xs) (hT : Tab H P) (he : ∀ H1, Ex H H1 → ∀ i u, i < xs.length → RelV (xs.getD i .non) u → QV X σ H1 P scope x u elt (.bl (f i))) :
    Ev (tGen X P scope x elt fin te) σ H (.bl (fin xs.length f)) := fun H1 e Q q =>
  h H1 e _ fun p H2 hp e2 h2 => ⟨hT.mono (e.trans e2), xs.length, fun i => xs.getD i .non, f, .inl ⟨p, xs, rfl, sq_of h2, rfl, fun i => rfl⟩, fun i u hi hu => he H2 (e.trans e2) i u hi hu, q H2 e2⟩
/-- over a list of pairs -/
theorem ev_genT {v : V} {n : Nat} {xs : Nat → V} {f : Nat → Bool} (h : Ev te σ H v) (hT : Tab H P) (hs : ∀ H1, Ex H H1 → SrcT X.K H1 v n xs) (he : ∀ H1, Ex H H1 → ∀ i u, i < n → RelV (xs i) u → QV X σ H1 P scope x u elt (.bl (f i))) :
    Ev (tGenT X P scope x elt fin te) σ H (.bl (fin n f)) := fun H1 e Q q => h H1 e _ fun H2 e2 => ⟨hT.mono (e.trans e2), n, xs, f, hs H2 (e.trans e2), he H2 (e.trans e2), q H2 e2⟩
/-- tuple(new list) -/
theorem eu_tupL {xs : List V} (h : EvL te σ H xs) : EvU (tCB (fun zs H Q => ∃ p ys, zs = [.ref p] ∧ ((SqL K H p ys ∧ ∀ l, H l = none → Q (.ref l) (upd H l (.tup ys))) ∨ (SqT K H p ys ∧ Q (.ref p) H))) (tCons te tNil)) σ H xs := fun H1 e Q q =>
  h H1 e _ fun p H2 hp e2 h2 => ⟨p, xs, rfl, .inl ⟨sq_of h2, fun l hl => q l _ (fresh_back e2 hl) (e2.trans (Ex.new hl)) upd_same⟩⟩
end
end LN

set_option Elab.async false
set_option linter.all false
set_option maxRecDepth 100000
set_option maxHeartbeats 4000000
namespace LP
open PySem PySem.Spec PyProof.Rows L2 Evl LT LG LS LX LO
/-! ### comprehensions whose elements are new objects: R i (those before) y heap -/
abbrev Rel := Nat → List V → V → Hp → Prop
def Mon (R : Rel) : Prop := ∀ i xs y H H', Ex H H' → R i xs y H → R i xs y H'
def EvR (te : TE) (σ : L2.St) (H : Hp) (n : Nat) (R : Rel) : Prop := ∀ H1, Ex H H1 → ∀ Q : VK, (∀ L xs H2, H1 L = none → Ex H1 H2 → H2 L = some (.lst xs) → xs.length = n → (∀ i y, xs[i]? = some y → R i (xs.take i) y H2) → Q (.ref L) H2) → te σ H1 Q
theorem but_ex {D : Addr} {H : Hp} : Ex (but D H) H := fun a o h => by
  unfold but at h
  split at h
  · cases h
  · exact h
theorem ex_but {D : Addr} {H H' : Hp} (e : Ex H H') : Ex (but D H) (but D H') := fun a o h => by
  unfold but at h ⊢
  split at h
  · cases h
  · rename_i n
    rw [if_neg n]
    exact e a o h
theorem but_upd {D : Addr} {H : Hp} {o : HO} : but D (upd H D o) = but D H := funext fun a => by
  unfold but
  split
  · rfl
  · rename_i n
    exact upd_ne n
/-- what is new later than D -/
theorem but_new {D l : Addr} {H2 H3 : Hp} {o : HO} (hD : H2 D ≠ none) (hl : H2 l = none) (h : H3 l = some o) : but D H3 l = some o := by
  rw [but_ne (fun e => hD (by rw [← e]; exact hl))]
  exact h
/-- what stood before D -/
theorem but_old {D l : Addr} {H H3 : Hp} {o : HO} (hD : H D = none) (h : H l = some o) (e : Ex H H3) : but D H3 l = some o := by
  rw [but_ne (fun z => by rw [z, hD] at h; cases h)]
  exact e _ _ h
def Cr (H : Hp) (R : Rel) (D : Addr) (i : Nat) (H' : Hp) : Prop := H D = none ∧ Ex H H' ∧ ∃ xs, H' D = some (.lst xs) ∧ xs.length = i ∧ ∀ j y, xs[j]? = some y → R j (xs.take j) y (but D H')
theorem cr_turn {H H' : Hp} {R : Rel} {D : Addr} {i : Nat} {te : TE} {σ2 : L2.St} (mon : Mon R) (p : Cr H R D i H') (hi : i < 50000)
    (he : H' D ≠ none → ∀ xs : List V, xs.length = i → (∀ j y, xs[j]? = some y → R j (xs.take j) y (but D H')) → ∀ Q : VK, (∀ y H3, Ex H' H3 → R i xs y (but D H3) → Q y H3) → te σ2 H' Q) :
    tYes σ2 H' fun b H3 => if b = true then te σ2 H3 fun y H4 => ∃ acc, H4 D = some (.lst acc) ∧ acc.length < sizeLine ∧ Cr H R D (i + 1) (upd H4 D (.lst (acc ++ [y]))) else Cr H R D (i + 1) H3 := by
  obtain ⟨p1, p2, xs, p3, p4, p5⟩ := p
  show te σ2 H' fun y H4 => ∃ acc, H4 D = some (.lst acc) ∧ acc.length < sizeLine ∧ Cr H R D (i + 1) (upd H4 D (.lst (acc ++ [y])))
  refine he (by rw [p3]; exact fun e => by cases e) xs p4 p5 _ fun y H4 e4 r => ⟨xs, e4 _ _ p3, sz_lt (by omega), p1, (p2.trans e4).mut p1, xs ++ [y], upd_same, by simp [p4], fun j z hz => ?_⟩
  rw [but_upd]
  by_cases hj : j < xs.length
  · rw [List.getElem?_append_left hj] at hz
    rw [List.take_append_of_le_length (Nat.le_of_lt hj)]
    exact mon _ _ _ _ _ (ex_but e4) (p5 j z hz)
  · have hj2 : j = xs.length := by
      have := (List.getElem?_eq_some_iff.mp hz).1
      simp at this
      omega
    subst hj2
    rw [List.getElem?_append_right (Nat.le_refl _), Nat.sub_self] at hz
    cases hz
    rw [List.take_left', ← p4] at *
    · rw [p4]; rw [p4] at r; exact r
    · rfl
section
variable {K : PySem.W.Frag} {σ : L2.St} {H : Hp} {R : Rel} {te tl : TE} {vs : List Nat} {j j2 : Nat}
theorem er_R1 {ta : TA} {n : Int} (h : EvA ta σ H [.int n]) (hn : 0 ≤ n ∧ n ≤ 40000) (hw : ∀ x, wipe ((wipe σ vs).set j (some x)) vs = wipe σ vs) (mon : Mon R)
    (he : ∀ (i : Nat) D H1, H D = none → Ex H H1 → H1 D ≠ none → (i : Int) < n → ∀ xs : List V, xs.length = i → (∀ j y, xs[j]? = some y → R j (xs.take j) y (but D H1)) → ∀ Q : VK, (∀ y H3, Ex H1 H3 → R i xs y (but D H3) → Q y H3) → te ((wipe σ vs).set j (some (.int (i : Int)))) H1 Q) :
    EvR (tLc (iRng1 ta) (gName j) tYes te vs) σ H n.toNat R := fun H0 e Q q => h H0 e _ fun H1 e1 => ⟨n, rfl, by omega, by omega, fun Dl hD =>
  lc_range (lo := 0) (n := n.toNat) (Cr H1 R Dl) ⟨hD, Ex.new hD, [], upd_same, rfl, fun j y hy => by simp at hy⟩ (fun i H' hi p => by
    have e0 : (0 : Int) + (i : Int) = (i : Int) := Int.zero_add _
    rw [e0]
    exact ⟨hw _, cr_turn mon p (by omega) (fun h1 xs h2 h3 => he i Dl H' (fresh_back (e.trans e1) hD) ((e.trans e1).trans p.2.1) h1 (by omega) xs h2 h3)⟩)
    (fun H' ⟨p1, p2, xs, p3, p4, p5⟩ => q Dl xs H' (fresh_back e1 p1) (e1.trans p2) p3 p4 fun i y hy => mon _ _ _ _ _ but_ex (p5 i y hy))⟩
theorem er_L {a : Addr} {ys : List V} (h : Ev tl σ H (.ref a)) (hx : SqL K H a ys) (hz : ys.length ≤ 40000) (hw : ∀ x, wipe ((wipe σ vs).set j (some x)) vs = wipe σ vs) (mon : Mon R)
    (he : ∀ (i : Nat) (x : V) D H1, H D = none → Ex H H1 → H1 D ≠ none → ys[i]? = some x → ∀ xs : List V, xs.length = i → (∀ j y, xs[j]? = some y → R j (xs.take j) y (but D H1)) → ∀ Q : VK, (∀ y H3, Ex H1 H3 → R i xs y (but D H3) → Q y H3) → te ((wipe σ vs).set j (some x)) H1 Q) :
    EvR (tLc (iList K tl) (gName j) tYes te vs) σ H ys.length R := fun H0 e Q q => h H0 e _ fun H1 e1 => ⟨a, rfl, ⟨ys, ex_l (e.trans e1) hx⟩, fun Dl hD =>
  lc_list (xs := ys) (Cr H1 R Dl) ⟨hD, Ex.new hD, [], upd_same, rfl, fun j y hy => by simp at hy⟩ (fun i H' _ p => ex_l ((e.trans e1).trans p.2.1) hx)
    (fun i x H' hi p => ⟨hw x, cr_turn mon p (by have := (List.getElem?_eq_some_iff.mp hi).1; omega) (fun h1 xs h2 h3 => he i x Dl H' (fresh_back (e.trans e1) hD) ((e.trans e1).trans p.2.1) h1 hi xs h2 h3)⟩)
    (fun H' ⟨p1, p2, xs, p3, p4, p5⟩ => q Dl xs H' (fresh_back e1 p1) (e1.trans p2) p3 p4 fun i y hy => mon _ _ _ _ _ but_ex (p5 i y hy))⟩
/-- over a list of pairs -/
theorem er_L2 {a : Addr} {ys : List V} (h : Ev tl σ H (.ref a)) (hx : SqL K H a ys) (hz : ys.length ≤ 40000) (hw : ∀ x y, wipe (((wipe σ vs).set j (some x)).set j2 (some y)) vs = wipe σ vs) (mon : Mon R)
    (he : ∀ (i : Nat) (x : V) D H1, H D = none → Ex H H1 → H1 D ≠ none → ys[i]? = some x → ∃ t u v, x = .ref t ∧ SqT K H1 t [u, v] ∧ ∀ xs : List V, xs.length = i → (∀ j y, xs[j]? = some y → R j (xs.take j) y (but D H1)) → ∀ Q : VK, (∀ y H3, Ex H1 H3 → R i xs y (but D H3) → Q y H3) → te (((wipe σ vs).set j (some u)).set j2 (some v)) H1 Q) :
    EvR (tLc (iList K tl) (gTup K 2 (gCons (gName j) (gCons (gName j2) gNil))) tYes te vs) σ H ys.length R := fun H0 e Q q => h H0 e _ fun H1 e1 => ⟨a, rfl, ⟨ys, ex_l (e.trans e1) hx⟩, fun Dl hD =>
  lc_list (xs := ys) (Cr H1 R Dl) ⟨hD, Ex.new hD, [], upd_same, rfl, fun j y hy => by simp at hy⟩ (fun i H' _ p => ex_l ((e.trans e1).trans p.2.1) hx)
    (fun i x H' hi p => by
      have h1 : H' Dl ≠ none := by
        obtain ⟨_, _, xs, p3, _⟩ := p
        rw [p3]
        exact fun e => by cases e
      obtain ⟨t, u, v, rfl, hT, k⟩ := he i x Dl H' (fresh_back (e.trans e1) hD) ((e.trans e1).trans p.2.1) h1 hi
      exact ⟨t, [u, v], rfl, hT, rfl, u, [v], rfl, v, [], rfl, rfl, hw u v, cr_turn mon p (by have := (List.getElem?_eq_some_iff.mp hi).1; omega) fun _ xs' h2 h3 => k xs' h2 h3⟩)
    (fun H' ⟨p1, p2, xs, p3, p4, p5⟩ => q Dl xs H' (fresh_back e1 p1) (e1.trans p2) p3 p4 fun i y hy => mon _ _ _ _ _ but_ex (p5 i y hy))⟩
end
/-! ### a list of known items, new or not -/
def EvF (te : TE) (σ : L2.St) (H : Hp) (xs : List V) : Prop := ∀ H1, Ex H H1 → ∀ Q : VK, (∀ p H2, Ex H1 H2 → H2 p = some (.lst xs) → Q (.ref p) H2) → te σ H1 Q
def fset (f : Nat → List Int) (s : Nat) (v : List Int) : Nat → List Int := fun x => if x = s then v else f x
def Z8 : List Int := [0, 0, 0, 0, 0, 0, 0, 0]
/-- a dict from sectors to lists of words -/
def Dz (H : Hp) (d : Addr) (n : Nat) (f : Nat → List Int) : Prop := ∃ kvs : List (Key × V), H d = some (.dK kvs) ∧ kvs.length ≤ n ∧ ∀ s : Nat, (valV kvs (.inl (s : Int)) = none ∧ f s = Z8) ∨ ∃ l, valV kvs (.inl (s : Int)) = some (.ref l) ∧ H l = some (.lst ((f s).map V.int))
theorem cut_lo (xs : List V) (n : Nat) : cutV xs none (some (n : Int)) = xs.take n := by
  unfold cutV
  rw [HT.sIx_none, HT.sIx_nat, List.drop_zero, Nat.sub_zero, List.take_eq_take_iff]
  omega
theorem cut_hi (xs : List V) (n : Nat) : cutV xs (some (n : Int)) none = xs.drop n := by
  unfold cutV
  rw [HT.sIx_none, HT.sIx_nat, List.take_of_length_le (by rw [List.length_drop]; omega)]
  by_cases h : n ≤ xs.length
  · rw [Nat.min_eq_left h]
  · rw [Nat.min_eq_right (by omega), List.drop_eq_nil_of_le (Nat.le_refl _), List.drop_eq_nil_of_le (by omega)]
section
variable {K : PySem.W.Frag} {σ : L2.St} {H H' : Hp} {ta tb te td tk tx : TE} {v : V} {xs ys : List V} {d : Addr} {n s : Nat} {f : Nat → List Int} {D : Ends} {tz : TS}
theorem el_f (h : EvL te σ H xs) : EvF te σ H xs := fun H1 e Q q => h H1 e Q fun p H2 _ e2 h2 => q p H2 e2 h2
theorem Dz.ex (D : Dz H d n f) (e : Ex H H') : Dz H' d n f := by
  obtain ⟨kvs, h, hl, hs⟩ := D
  exact ⟨kvs, e _ _ h, hl, fun s => (hs s).imp id fun ⟨l, a, b⟩ => ⟨l, a, e _ _ b⟩⟩
theorem Dz.le (D : Dz H d n f) {m : Nat} (h : n ≤ m) : Dz H d m f := by
  obtain ⟨kvs, h1, hl, hs⟩ := D
  exact ⟨kvs, h1, Nat.le_trans hl h, hs⟩
theorem ef_get (hd : Ev td σ H (.ref d)) (hD : Dz H d n f) (hk : Ev tk σ H (.int (s : Int))) (hx : EvL tx σ H (Z8.map V.int)) : EvF (tDGet2 td tk tx) σ H ((f s).map V.int) := fun H1 e Q q => by
  obtain ⟨kvs, h, _, hs⟩ := hD
  refine hd H1 e _ fun H2 e2 => ⟨d, rfl, .inl ⟨kvs, .inl (e2 _ _ (e _ _ h))⟩, hk H2 (e.trans e2) _ fun H3 e3 => hx H3 ((e.trans e2).trans e3) _ fun p H4 hp e4 h4 => ?_⟩
  have e14 := (e2.trans e3).trans e4
  rcases hs s with ⟨hn, hf⟩ | ⟨l, hv, hl⟩
  · refine ⟨none, ?_, ?_⟩
    · rw [← hn]
      exact DGet.k (k := Sum.inl (s : Int)) (e14 _ _ (e _ _ h))
    · rw [hf] at q
      exact q p H4 e14 h4
  · refine ⟨some (.ref l), ?_, q l H4 e14 (e14 _ _ (e _ _ hl))⟩
    rw [← hv]
    exact DGet.k (k := Sum.inl (s : Int)) (e14 _ _ (e _ _ h))
theorem q_asgF {i : Nat} (h : EvF te σ H xs) (k : ∀ p H1, Ex H H1 → H1 p = some (.lst xs) → tz D (σ.set i (some (.ref p))) H1) : tSeq (tAsg te (gName i)) tz D σ H := h H (Ex.refl H) _ fun p H1 e h1 => k p H1 e h1
/-- list(an evaluated list) -/
theorem el_listF (h : EvF te σ H xs) : EvL (tCB (rListS K) (tCons te tNil)) σ H xs := fun H1 e Q q =>
  h H1 e _ fun p H2 e2 h2 => ⟨p, xs, rfl, Or.inl (sq_of h2), fun l hl => q l _ (fresh_back e2 hl) (e2.trans (Ex.new hl)) upd_same⟩
theorem q_dcopy {i : Nat} (hd : Ev td σ H (.ref d)) (hD : Dz H d n f) (k : ∀ p H1, H p = none → Ex H H1 → Dz H1 p n f → tz D (σ.set i (some (.ref p))) H1) :
    tSeq (tAsg (tCB (fun xs H Q => ∃ (a : Addr) (kvs : List (Key × V)), xs = [.ref a] ∧ Rd H a (.dK kvs) ∧ ∀ p, H p = none → Q (.ref p) (upd H p (.dK kvs))) (tCons td tNil)) (gName i)) tz D σ H := by
  obtain ⟨kvs, h, hl, hs⟩ := hD
  refine hd H (Ex.refl H) _ fun H1 e1 => ⟨d, kvs, rfl, .inl (e1 _ _ h), fun p hp => k p _ (fresh_back e1 hp) (e1.trans (Ex.new hp)) ⟨kvs, upd_same, hl, fun s => (hs s).imp id fun ⟨l, a, b⟩ => ⟨l, a, (e1.trans (Ex.new hp)) _ _ b⟩⟩⟩
theorem s_dputL {zs : List Int} (hv : EvL te σ H (zs.map V.int)) (hd : Ev td σ H (.ref d)) (hk : Ev tk σ H (.int (s : Int))) (hD : Dz H d n f) (hn : n < 100000) (k : ∀ H1 o, Ex H H1 → Dz (upd H1 d o) d (n + 1) (fset f s zs) → D.nx σ (upd H1 d o)) : sDPut td tk te D σ H := by
  obtain ⟨kvs, h, hl, hs⟩ := hD
  refine hv H (Ex.refl H) _ fun l H1 hl1 e1 h1 => hd H1 e1 _ fun H2 e2 => hk H2 (e1.trans e2) _ fun H3 e3 => ?_
  have e13 := (e1.trans e2).trans e3
  have h3 := e13 _ _ h
  have l3 := e3 _ _ (e2 _ _ h1)
  have hld : l ≠ d := ne_of l3 h3 (by intro z; cases z)
  refine ⟨d, _, rfl, DPut.k (k := Sum.inl (s : Int)) h3 (sz_lt (by omega)), k H3 _ e13 ⟨_, upd_same, Nat.le_trans (length_putK _ _ _) (by omega), fun j => ?_⟩⟩
  rw [valV_put]
  by_cases hj : j = s
  · subst hj
    rw [if_pos rfl]
    refine .inr ⟨l, rfl, ?_⟩
    rw [upd_ne hld, l3]
    unfold fset
    rw [if_pos rfl]
  · rw [if_neg (fun z => hj (by cases z; rfl))]
    have ef : fset f s zs j = f j := if_neg hj
    rw [ef]
    refine (hs j).imp id fun ⟨m, a, b⟩ => ⟨m, a, ?_⟩
    have b3 := e13 _ _ b
    rw [upd_ne (ne_of b3 h3 (by intro z; cases z))]
    exact b3
theorem el_catL (ha : EvL ta σ H xs) (hb : EvL tb σ H ys) (hz : xs.length + ys.length ≤ 100000) : EvL (tOp rCat ta tb) σ H (xs ++ ys) := fun H1 e Q q =>
  ha H1 e _ fun a H2 ha2 e2 h2 => hb H2 (e.trans e2) _ fun b H3 hb3 e3 h3 => ⟨a, b, xs, ys, rfl, rfl, e3 _ _ h2, h3, sz_of hz, fun p hp => q p _ (fresh_back (e2.trans e3) hp) ((e2.trans e3).trans (Ex.new hp)) upd_same⟩
theorem el_cat {l : Addr} (ha : Ev ta σ H (.ref l)) (hl : H l = some (.lst xs)) (hb : EvL tb σ H ys) (hz : xs.length + ys.length ≤ 100000) : EvL (tOp rCat ta tb) σ H (xs ++ ys) := fun H1 e Q q =>
  ha H1 e _ fun H2 e2 => hb H2 (e.trans e2) _ fun b H3 hb3 e3 h3 => ⟨l, b, xs, ys, rfl, rfl, e3 _ _ (e2 _ _ (e _ _ hl)), h3, sz_of hz, fun p hp => q p _ (fresh_back (e2.trans e3) hp) ((e2.trans e3).trans (Ex.new hp)) upd_same⟩
theorem el_rep1 {z : Int} (ha : EvL ta σ H [v]) (hb : Ev tb σ H (.int z)) (h0 : 0 ≤ z) (h1 : z ≤ 100000) : EvL (tOp rRep ta tb) σ H (List.replicate z.toNat v) := fun H1 e Q q =>
  ha H1 e _ fun a H2 ha2 e2 h2 => hb H2 (e.trans e2) _ fun H3 e3 => ⟨a, z, [v], rfl, rfl, e3 _ _ h2, by omega, by omega, sz_of (by simp; omega), fun p hp => by
    have := q p (upd H3 p (.lst (List.replicate z.toNat [v]).flatten)) (fresh_back (e2.trans e3) hp) ((e2.trans e3).trans (Ex.new hp))
    rw [show (List.replicate z.toNat [v]).flatten = List.replicate z.toNat v by
      induction z.toNat with
      | zero => rfl
      | succ k ih => rw [List.replicate_succ, List.flatten_cons, ih]; rfl] at this ⊢
    exact this upd_same⟩
theorem ev_min2 {i j : Int} (ha : Ev ta σ H (.int i)) (hb : Ev tb σ H (.int j)) : Ev (tCB (fun xs H Q => ∃ i j, xs = [.int i, .int j] ∧ Q (.int (if j < i then j else i)) H) (tCons ta (tCons tb tNil))) σ H (.int (if j < i then j else i)) := ev_cb (ea_cons ha (ea_cons hb ea_nil)) fun H1 e Q q => ⟨i, j, rfl, q H1 (Ex.refl H1)⟩
theorem er_asg {i : Nat} {R : Rel} (h : EvR te σ H n R) (k : ∀ L xs H1, H L = none → Ex H H1 → H1 L = some (.lst xs) → xs.length = n → (∀ i y, xs[i]? = some y → R i (xs.take i) y H1) → tz D (σ.set i (some (.ref L))) H1) : tSeq (tAsg te (gName i)) tz D σ H := h H (Ex.refl H) _ k
theorem er_ret {R : Rel} (h : EvR te σ H n R) (k : ∀ L xs H1, H L = none → Ex H H1 → H1 L = some (.lst xs) → xs.length = n → (∀ i y, xs[i]? = some y → R i (xs.take i) y H1) → D.rt (.ref L) H1) : tRet te D σ H := h H (Ex.refl H) _ k
end
/-! ### more statements -/
section
variable {K : PySem.W.Frag} {σ : L2.St} {H : Hp} {ta tb te : TE} {t : TA} {xs ys : List V} {l C p dx : Addr} {fs : List (Str × V)} {m : Str} {n : Nat} {D : Ends} {tz : TS}
theorem s_setLL {j : Nat} (hl : H l = some (.lst xs)) (h : EvL te σ H ys) (ho : Ev ta σ H (.ref l)) (hi : Ev tb σ H (.int (j : Int))) (hj : j < xs.length) (k : ∀ q H1, H q = none → Ex H H1 → H1 q = some (.lst ys) → D.nx σ (upd H1 l (.lst (xs.set j (.ref q))))) :
    tAsg te (gSub ta tb rSetL) D σ H := h H (Ex.refl H) _ fun q H1 hq e1 h1 => ho H1 e1 _ fun H2 e2 => hi H2 (e1.trans e2) _ fun H3 e3 => ⟨l, xs, (j : Int), j, rfl, rfl, ((e1.trans e2).trans e3) l _ hl, ixN_nat hj, k q H3 hq ((e1.trans e2).trans e3) (e3 _ _ (e2 _ _ h1))⟩
theorem q_fldR {R : Rel} (hv : EvR te σ H n R) (ha : Ev ta σ H (.ref p)) (hi : H p = some (.ins C dx fs)) (c : Cls K C) (nA : NoAttr K C m) (hz : fs.length < 1000) (k : ∀ L xs H1 H2, H L = none → Ex H H1 → Ex H1 H2 → H2 L = some (.lst xs) → xs.length = n → (∀ i y, xs[i]? = some y → R i (xs.take i) y H1) → tz D σ (upd H2 p (.ins C dx (putF m (.ref L) fs)))) : tSeq (sFld K ta te m) tz D σ H :=
  hv H (Ex.refl _) _ fun L xs H1 hL e1 h1 hn hr => ha H1 e1 _ fun H2 e2 => ⟨p, C, dx, fs, rfl, e2 _ _ (e1 _ _ hi), c, nA, hz, k L xs H1 H2 hL e1 e2 (e2 _ _ h1) hn hr⟩
theorem q_forZ {a b : Addr} {g : TG} {tu : TS} (h : EvA t σ H [.ref a, .ref b]) (hx : SqL K H a xs) (hy : SqL K H b ys) (Pv : Nat → L2.St → Hp → Prop) (h0 : ∀ H1, Ex H H1 → Pv 0 σ H1) (hl : ∀ i σ' H', Pv i σ' H' → SqL K H' a xs ∧ SqL K H' b ys)
    (hs : ∀ i x y T σ' H', xs[i]? = some x → ys[i]? = some y → Pv i σ' H' → H' T = none → g (.ref T) σ' (upd H' T (.tup [x, y])) fun σ2 H2 => tu { D with nx := Pv (i + 1), ct := Pv (i + 1), bk := tz D } σ2 H2) (hd : ∀ σ' H', Pv (min xs.length ys.length) σ' H' → tz D σ' H') : tSeq (tFor (iZip K t) g tu) tz D σ H :=
  h H (Ex.refl H) _ fun H1 e => ⟨a, b, xs, ys, rfl, ex_l e hx, ex_l e hy, for_it (D := { D with nx := tz D }) (walk_zip rfl) Pv (h0 H1 e) (fun i σ' H' _ p => hl i σ' H' p) (fun i v σ' H' H2 hi p y => by
    obtain ⟨T, x, z, rfl, hT, rfl, h1, h2⟩ := y
    exact hs i x z T σ' H' h1 h2 p hT) hd⟩
end
theorem refs_of : ∀ {xs : List V}, (∀ y ∈ xs, ∃ a, y = V.ref a) → ∃ ks : List Addr, xs = ks.map V.ref
  | [], _ => ⟨[], rfl⟩
  | x :: r, h => by
    obtain ⟨a, rfl⟩ := h x List.mem_cons_self
    obtain ⟨ks, e⟩ := refs_of fun y hy => h y (List.mem_cons_of_mem _ hy)
    exact ⟨a :: ks, by rw [e]; rfl⟩
/-- a method that is passed a new list -/
theorem mR_run {sp : Sp} {σ : L2.St} {H : Hp} {ta te : TE} {C p dx : Addr} {fs : List (Str × V)} {m : Str} {xs : List V} {D : Ends} {E : XK} (ha : Ev ta σ H (.ref p)) (hi : H p = some (.ins C dx fs)) (hl : fs.lookup m = none) (ht : EvL te σ H xs) (k : ∀ c H1, H c = none → Ex H H1 → H1 c = some (.lst xs) → sp [.ref p, .ref c] H1 (fun _ H2 => D.nx σ H2) E) : tDrop (tMeth C m sp [] E ta (tCons te tNil)) D σ H :=
  ha H (Ex.refl _) _ fun H2 e2 => ⟨p, dx, fs, rfl, e2 _ _ hi, hl, ht H2 e2 _ fun c H3 hc e3 h3 => k c H3 (fresh_back e2 hc) (e2.trans e3) h3⟩
section
variable {K : PySem.W.Frag} {σ : L2.St} {H : Hp} {ta tb te t1 : TE} {t : TA} {v : V} {xs ys vs : List V} {C p dx a : Addr} {fs : List (Str × V)} {m : Str} {sp : Sp} {D : Ends} {tz : TS}
theorem ev_int1 {i : Int} (h : Ev te σ H (.int i)) : Ev (tCB (fun xs H Q => (∃ i, xs = [V.int i] ∧ Q (V.int i) H) ∨ ∃ k : Bool, xs = [V.bl k] ∧ Q (V.int (if k then 1 else 0)) H) (tCons te tNil)) σ H (.int i) := ev_cb (ea_cons h ea_nil) fun H1 _ Q q => .inl ⟨i, rfl, q _ (Ex.refl _)⟩
theorem ef_var (h : Ev te σ H (.ref a)) (ha : H a = some (.lst xs)) : EvF te σ H xs := fun H1 e Q q => h H1 e _ fun H2 e2 => q a H2 e2 (e2 _ _ (e _ _ ha))
theorem ef_is (h : EvF te σ H xs) (e : xs = ys) : EvF te σ H ys := e ▸ h
theorem el_meth {E : XK} (ha : Ev ta σ H (.ref p)) (hi : H p = some (.ins C dx fs)) (hl : fs.lookup m = none) (ht : EvA t σ H vs) (hs : SpL sp (.ref p :: vs) H xs) : EvL (tMeth C m sp [] E ta t) σ H xs := fun H1 e Q q =>
  ha H1 e _ fun H2 e2 => ⟨p, dx, fs, rfl, e2 _ _ (e _ _ hi), hl, ht H2 (e.trans e2) _ fun H3 e3 => by
    rw [List.append_nil]
    exact hs H3 ((e.trans e2).trans e3) Q (fun l H4 hl e4 h4 => q l H4 (fresh_back (e2.trans e3) hl) ((e2.trans e3).trans e4) h4) E⟩
/-- in a try's body: o.m(e, a new list), o.m(a new list), o.m(e ..) -/
theorem s_mA2L {E : L2.St → XK} (ha : Ev ta σ H (.ref p)) (hi : H p = some (.ins C dx fs)) (hl : fs.lookup m = none) (h1 : Ev t1 σ H v) (ht : EvL te σ H xs) (k : ∀ c H1, H c = none → Ex H H1 → H1 c = some (.lst xs) → sp [.ref p, v, .ref c] H1 (fun _ H2 => D.nx σ H2) (E σ)) : tDrop (tMethA C m sp E ta (tCons t1 (tCons te tNil))) D σ H :=
  ha H (Ex.refl _) _ fun H2 e2 => ⟨p, dx, fs, rfl, e2 _ _ hi, hl, h1 H2 e2 _ fun H3 e3 => ht H3 (e2.trans e3) _ fun c H4 hc e4 h4 => k c H4 (fresh_back (e2.trans e3) hc) ((e2.trans e3).trans e4) h4⟩
theorem s_mA1L {E : L2.St → XK} (ha : Ev ta σ H (.ref p)) (hi : H p = some (.ins C dx fs)) (hl : fs.lookup m = none) (ht : EvL te σ H xs) (k : ∀ c H1, H c = none → Ex H H1 → H1 c = some (.lst xs) → sp [.ref p, .ref c] H1 (fun _ H2 => D.nx σ H2) (E σ)) : tDrop (tMethA C m sp E ta (tCons te tNil)) D σ H :=
  ha H (Ex.refl _) _ fun H2 e2 => ⟨p, dx, fs, rfl, e2 _ _ hi, hl, ht H2 e2 _ fun c H3 hc e3 h3 => k c H3 (fresh_back e2 hc) (e2.trans e3) h3⟩
theorem s_mAV {E : L2.St → XK} (ha : Ev ta σ H (.ref p)) (hi : H p = some (.ins C dx fs)) (hl : fs.lookup m = none) (ht : EvA t σ H vs) (k : ∀ H1, Ex H H1 → sp (.ref p :: vs) H1 (fun _ H2 => D.nx σ H2) (E σ)) : tDrop (tMethA C m sp E ta t) D σ H := mA_run (Q := fun _ H2 => D.nx σ H2) ha hi hl ht k
end
/-! ### what is frozen: all that G has; what is new joins it, but for X -/
open Classical in
noncomputable def grow (G H H1 : Hp) (X : Addr → Prop) : Hp := fun a => if G a ≠ none then G a else if H a = none ∧ ¬ X a then H1 a else none
section
variable {G H H1 : Hp} {X : Addr → Prop} {a : Addr} {o : HO}
theorem grow_ex : Ex G (grow G H H1 X) := fun a o h => by
  unfold grow
  rw [if_pos (by rw [h]; exact fun e => by cases e)]
  exact h
theorem grow_sub (e : Ex G H1) : Ex (grow G H H1 X) H1 := fun a o h => by
  unfold grow at h
  split at h
  · exact e a o h
  · split at h
    · exact h
    · cases h
theorem grow_mono {H2 : Hp} (e : Ex H1 H2) : Ex (grow G H H1 X) (grow G H H2 X) := fun a o h => by
  unfold grow at h ⊢
  split at h
  · rename_i c
    rw [if_pos c]
    exact h
  · rename_i c
    rw [if_neg c]
    split at h
    · rename_i c2
      rw [if_pos c2]
      exact e _ _ h
    · cases h
theorem grow_no (h : H a ≠ none) (g : G a = none) : grow G H H1 X a = none := by
  unfold grow
  rw [if_neg (by rw [g]; exact fun e => e rfl), if_neg fun e => h e.1]
theorem grow_X (x : X a) (g : G a = none) : grow G H H1 X a = none := by
  unfold grow
  rw [if_neg (by rw [g]; exact fun e => e rfl), if_neg fun e => e.2 x]
theorem grow_new (g : G a = none) (h : H a = none) (x : ¬ X a) (h1 : H1 a = some o) : grow G H H1 X a = some o := by
  unfold grow
  rw [if_neg (by rw [g]; exact fun e => e rfl), if_pos ⟨h, x⟩]
  exact h1
end
theorem ef_ref {te : TE} {σ : L2.St} {H : Hp} {a : Addr} {xs : List V} (h : Ev te σ H (.ref a)) (ha : H a = some (.lst xs)) : EvF te σ H xs := ef_var h ha
theorem ev_lenT {K : PySem.W.Frag} {ta : TE} {σ : L2.St} {H : Hp} {p : Addr} {xs : List V} (ha : Ev ta σ H (.ref p)) (h : SqT K H p xs) : Ev (tCB (rLenS K) (tCons ta tNil)) σ H (.int (xs.length : Int)) := ev_cb (ea_cons ha ea_nil) fun H1 e Q q => ⟨p, xs, rfl, .inr (ex_t e h), q H1 (Ex.refl H1)⟩
theorem ints_inj : ∀ {a b : List Int}, a.map V.int = b.map V.int → a = b
  | [], [], _ => rfl
  | [], _ :: _, h => by simp at h
  | _ :: _, [], h => by simp at h
  | a :: r, b :: s, h => by
    rw [List.map_cons, List.map_cons] at h
    injection h with h1 h2
    rw [V.int.inj h1, ints_inj h2]
/-! ### a dict that is being made: its lists are frozen or new -/
def DzG (G H0 H' : Hp) (d : Addr) (n : Nat) (f : Nat → List Int) : Prop := ∃ kvs : List (Key × V), H' d = some (.dK kvs) ∧ kvs.length ≤ n ∧ ∀ s : Nat, (valV kvs (.inl (s : Int)) = none ∧ f s = Z8) ∨ ∃ l, valV kvs (.inl (s : Int)) = some (.ref l) ∧ (G l = some (.lst ((f s).map V.int)) ∨ (H0 l = none ∧ H' l = some (.lst ((f s).map V.int))))
section
variable {G H0 H H' : Hp} {σ : L2.St} {te td tk : TE} {d : Addr} {n s : Nat} {f : Nat → List Int} {D : Ends} {tz : TS}
theorem DzG.ex (h : DzG G H0 H d n f) (e : Ex H H') : DzG G H0 H' d n f := by
  obtain ⟨kvs, h, hl, hs⟩ := h
  exact ⟨kvs, e _ _ h, hl, fun s => (hs s).imp id fun ⟨l, a, b⟩ => ⟨l, a, b.imp id fun c => ⟨c.1, e _ _ c.2⟩⟩⟩
theorem DzG.dz (h : DzG G H0 H d n f) (e : Ex G H) : Dz H d n f := by
  obtain ⟨kvs, h, hl, hs⟩ := h
  exact ⟨kvs, h, hl, fun s => (hs s).imp id fun ⟨l, a, b⟩ => ⟨l, a, b.elim (fun c => e _ _ c) fun c => c.2⟩⟩
theorem DzG.grown (h : DzG G H0 H d n f) (hd : H0 d = none) (g : Ex G H0) : Dz (grow G H0 H fun _ => False) d n f := by
  obtain ⟨kvs, h, hl, hs⟩ := h
  exact ⟨kvs, grow_new (fresh_back g hd) hd id h, hl, fun s => (hs s).imp id fun ⟨l, a, b⟩ => ⟨l, a, b.elim (fun c => grow_ex _ _ c) fun c => grow_new (fresh_back g c.1) c.1 id c.2⟩⟩
theorem q_dcopyG {i : Nat} (g : Ex G H) (hd : Ev td σ H (.ref d)) (hD : Dz G d n f) (k : ∀ p H1, H p = none → Ex H H1 → DzG G H H1 p n f → tz D (σ.set i (some (.ref p))) H1) :
    tSeq (tAsg (tCB (fun xs H Q => ∃ (a : Addr) (kvs : List (Key × V)), xs = [.ref a] ∧ Rd H a (.dK kvs) ∧ ∀ p, H p = none → Q (.ref p) (upd H p (.dK kvs))) (tCons td tNil)) (gName i)) tz D σ H := by
  obtain ⟨kvs, h, hl, hs⟩ := hD
  refine hd H (Ex.refl H) _ fun H1 e1 => ⟨d, kvs, rfl, .inl (e1 _ _ (g _ _ h)), fun p hp => k p _ (fresh_back e1 hp) (e1.trans (Ex.new hp)) ⟨kvs, upd_same, hl, fun s => (hs s).imp id fun ⟨l, a, b⟩ => ⟨l, a, .inl b⟩⟩⟩
theorem s_dputG {zs : List Int} (g : Ex H0 H) (hv : EvL te σ H (zs.map V.int)) (hd : Ev td σ H (.ref d)) (hk : Ev tk σ H (.int (s : Int))) (hD : DzG G H0 H d n f) (hn : n < 100000) (k : ∀ H1 o, Ex H H1 → DzG G H0 (upd H1 d o) d (n + 1) (fset f s zs) → D.nx σ (upd H1 d o)) : sDPut td tk te D σ H := by
  obtain ⟨kvs, h, hl, hs⟩ := hD
  refine hv H (Ex.refl H) _ fun l H1 hl1 e1 h1 => hd H1 e1 _ fun H2 e2 => hk H2 (e1.trans e2) _ fun H3 e3 => ?_
  have e13 := (e1.trans e2).trans e3
  have h3 := e13 _ _ h
  have l3 := e3 _ _ (e2 _ _ h1)
  have hld : l ≠ d := ne_of l3 h3 (by intro z; cases z)
  refine ⟨d, _, rfl, DPut.k (k := Sum.inl (s : Int)) h3 (sz_lt (by omega)), k H3 _ e13 ⟨_, upd_same, Nat.le_trans (length_putK _ _ _) (by omega), fun j => ?_⟩⟩
  rw [valV_put]
  by_cases hj : j = s
  · subst hj
    rw [if_pos rfl]
    refine .inr ⟨l, rfl, .inr ⟨fresh_back g hl1, ?_⟩⟩
    rw [upd_ne hld, l3]
    unfold fset
    rw [if_pos rfl]
  · rw [if_neg (fun z => hj (by cases z; rfl))]
    have ef : fset f s zs j = f j := if_neg hj
    rw [ef]
    refine (hs j).imp id fun ⟨m, a, b⟩ => ⟨m, a, b.imp id fun c => ⟨c.1, ?_⟩⟩
    have b3 := e13 _ _ c.2
    rw [upd_ne (ne_of b3 h3 (by intro z; cases z))]
    exact b3
end
section
variable {K : PySem.W.Frag} {σ : L2.St} {H : Hp} {t1 t2 te : TE} {v1 v2 : V} {xs : List V} {l : Addr} {sp : Sp} {E : XK} {D : Ends} {tz : TS}
/-- x = f(e, e', a new list) -/
theorem q_call3L {i : Nat} (h1 : Ev t1 σ H v1) (h2 : Ev t2 σ H v2) (h3 : EvL te σ H xs) (k : ∀ c H1, H c = none → Ex H H1 → H1 c = some (.lst xs) → sp [v1, v2, .ref c] H1 (fun v H2 => tz D (σ.set i (some v)) H2) E) : tSeq (tAsg (tCall sp [] E (tCons t1 (tCons t2 (tCons te tNil)))) (gName i)) tz D σ H :=
  h1 H (Ex.refl _) _ fun H1 e1 => h2 H1 e1 _ fun H2 e2 => h3 H2 (e1.trans e2) _ fun c H3 hc e3 h3' => k c H3 (fresh_back (e1.trans e2) hc) ((e1.trans e2).trans e3) h3'
/-- x = x + [(e, e')] -/
theorem s_snocT {i : Nat} (ha : Ev te σ H (.ref l)) (hl : H l = some (.lst xs)) (h1 : Ev t1 σ H v1) (h2 : Ev t2 σ H v2) (hz : xs.length < 10000) (k : ∀ t L H1, H t = none → H L = none → Ex H H1 → H1 t = some (.tup [v1, v2]) → H1 L = some (.lst (xs ++ [.ref t])) → D.nx (σ.set i (some (.ref L))) H1) :
    tAsg (tOp rCat te (tLst (tCons (tTup (tCons t1 (tCons t2 tNil))) tNil))) (gName i) D σ H :=
  ha H (Ex.refl _) _ fun H1 e1 => h1 H1 e1 _ fun H2 e2 => h2 H2 (e1.trans e2) _ fun H3 e3 => ⟨by show 2 ≤ sizeLine; decide, fun t ht => ⟨by show 1 ≤ sizeLine; decide, fun b hb => by
    have e4 := Ex.new (o := .tup [v1, v2]) ht
    have e5 := Ex.new (o := .lst [.ref t]) hb
    have e13 := (e1.trans e2).trans e3
    refine ⟨l, b, xs, [.ref t], rfl, rfl, e5 _ _ (e4 _ _ (e13 _ _ hl)), upd_same, sz_of (by simp; omega), fun L hL => ?_⟩
    have e6 := Ex.new (o := .lst (xs ++ [.ref t])) hL
    exact k t L _ (fresh_back e13 ht) (fresh_back ((e13.trans e4).trans e5) hL) (((e13.trans e4).trans e5).trans e6) (e6 _ _ (e5 _ _ upd_same)) upd_same⟩⟩
end
end LP

set_option Elab.async false
set_option linter.all false
set_option maxRecDepth 100000
set_option maxHeartbeats 4000000
namespace LK
open PySem PySem.Spec PyProof.Rows L2 Evl

/-! ### data that == serves -/
def Sh (n : Nat) (d : PyData) : Prop := d.canLay0 = true ∧ d.depth ≤ n
theorem sh_int (i : Int) (n : Nat := 0) : Sh n (.int i) := ⟨by simp [PyData.canLay0], by simp [PyData.depth]⟩
theorem sh_bool (b : Bool) (n : Nat := 0) : Sh n (.bool b) := ⟨by simp [PyData.canLay0], by simp [PyData.depth]⟩
theorem sh_none (n : Nat := 0) : Sh n .none := ⟨by simp [PyData.canLay0], by simp [PyData.depth]⟩
theorem sh_all {n : Nat} : ∀ {ds : List PyData}, (∀ d ∈ ds, Sh n d) → PyData.canLayAll0 ds = true ∧ PyData.depthAll ds ≤ n
  | [], _ => ⟨by simp [PyData.canLayAll0], by simp [PyData.depthAll]⟩
  | d :: ds, h => by
    obtain ⟨h1, h2⟩ := h d List.mem_cons_self
    obtain ⟨h3, h4⟩ := sh_all fun e he => h e (List.mem_cons_of_mem _ he)
    refine ⟨?_, ?_⟩
    · rw [PyData.canLayAll0, h1, h3]
      rfl
    · rw [PyData.depthAll]
      omega
theorem sh_tup {n : Nat} {ds : List PyData} (h : ∀ d ∈ ds, Sh n d) : Sh (n + 1) (.tuple ds) := by
  obtain ⟨h1, h2⟩ := sh_all h
  refine ⟨?_, ?_⟩
  · rw [PyData.canLay0]
    exact h1
  · rw [PyData.depth]
    omega
theorem sh_lst {n : Nat} {ds : List PyData} (h : ∀ d ∈ ds, Sh n d) : Sh (n + 1) (.list ds) := by
  obtain ⟨h1, h2⟩ := sh_all h
  refine ⟨?_, ?_⟩
  · rw [PyData.canLay0]
    exact h1
  · rw [PyData.depth]
    omega
theorem Sh.up {n m : Nat} {d : PyData} (h : Sh n d) (e : n ≤ m) : Sh m d := ⟨h.1, Nat.le_trans h.2 e⟩
theorem Sh.shaped {n : Nat} {d : PyData} (h : Sh n d) (e : n ≤ 64) : SeqAt.shaped d = true := by
  unfold SeqAt.shaped
  rw [h.1, decide_eq_true (Nat.le_trans h.2 e)]
  rfl
theorem Sh.refl {n : Nat} {d : PyData} (h : Sh n d) : PyData.eqv d d = true := SeqAt.eqv_refl d h.1
theorem sh_ints (ns : List Int) : ∀ d ∈ ns.map PyData.int, Sh 0 d := fun d hd => by
  obtain ⟨i, _, rfl⟩ := List.mem_map.mp hd
  exact sh_int i
section
variable {K : PySem.W.Frag} {H H' : Hp}
theorem dp_ints : ∀ ns : List Int, DpAll K H (ns.map V.int) (ns.map PyData.int)
  | [] => .nil
  | n :: r => .cons (.int n) (dp_ints r)
mutual
theorem dp_mono (e : Ex H H') : ∀ {v : V} (d : PyData), Dp K H v d → Dp K H' v d
  | _, .none, h => by cases h; exact .non
  | _, .bool b, h => by cases h; exact .bl b
  | _, .int i, h => by cases h; exact .int i
  | _, .str x, h => by cases h; exact .str x
  | _, .list ds, h => by
    cases h with
    | lst h1 h2 => exact .lst (ex_l e h1) (dpa_mono e ds h2)
  | _, .tuple ds, h => by
    cases h with
    | tup h1 h2 => exact .tup (ex_t e h1) (dpa_mono e ds h2)
  | _, .dict _, h => by cases h
theorem dpa_mono (e : Ex H H') : ∀ {vs : List V} (ds : List PyData), DpAll K H vs ds → DpAll K H' vs ds
  | _, [], h => by cases h; exact .nil
  | _, d :: ds, h => by
    cases h with
    | cons h1 h2 => exact .cons (dp_mono e d h1) (dpa_mono e ds h2)
end
/-- two values of the same data: == True, != False -/
theorem rv_eqD {x y : V} {d : PyData} {n : Nat} (hx : Dp K H x d) (hy : Dp K H y d) (s : Sh n d) (hn : n ≤ 64) : RV (rEqD K) x y H (.bl true) := rv_val fun H1 e Q q =>
  ⟨d, d, dp_mono e d hx, dp_mono e d hy, s.shaped hn, s.shaped hn, by rw [s.refl]; exact q⟩
theorem rv_neD {x y : V} {d : PyData} {n : Nat} (hx : Dp K H x d) (hy : Dp K H y d) (s : Sh n d) (hn : n ≤ 64) : RV (rNeD K) x y H (.bl false) := rv_val fun H1 e Q q =>
  ⟨d, d, dp_mono e d hx, dp_mono e d hy, s.shaped hn, s.shaped hn, by rw [s.refl]; exact q⟩
/-- of any two data -/
theorem rv_neDD {x y : V} {d f : PyData} {n : Nat} (hx : Dp K H x d) (hy : Dp K H y f) (s : Sh n d) (s' : Sh n f) (hn : n ≤ 64) : RV (rNeD K) x y H (.bl (!PyData.eqv d f)) := rv_val fun H1 e Q q =>
  ⟨d, f, dp_mono e d hx, dp_mono e f hy, s.shaped hn, s'.shaped hn, q⟩
theorem rv_eqDD {x y : V} {d f : PyData} {n : Nat} (hx : Dp K H x d) (hy : Dp K H y f) (s : Sh n d) (s' : Sh n f) (hn : n ≤ 64) : RV (rEqD K) x y H (.bl (PyData.eqv d f)) := rv_val fun H1 e Q q =>
  ⟨d, f, dp_mono e d hx, dp_mono e f hy, s.shaped hn, s'.shaped hn, q⟩
theorem rv_ltT {a b : Addr} {ns ms : List Int} (ha : SqT K H a (ns.map V.int)) (hb : SqT K H b (ms.map V.int)) : RV (rLtT K) (.ref a) (.ref b) H (.bl (HT.lexLt ns ms)) := rv_val fun H1 e Q q =>
  ⟨a, b, ns, ms, rfl, rfl, ex_t e ha, ex_t e hb, q⟩
def leV (ns ms : List Int) : Bool := Ob.lexAt (fun j => decide (ns.getD j 0 = ms.getD j 0)) (fun j => decide (ns.getD j 0 ≤ ms.getD j 0)) (decide (ns.length ≤ ms.length)) 0 (min ns.length ms.length)
theorem rv_leT {a b : Addr} {ns ms : List Int} (ha : SqT K H a (ns.map V.int)) (hb : SqT K H b (ms.map V.int)) : RV (rLeT K) (.ref a) (.ref b) H (.bl (leV ns ms)) := rv_val fun H1 e Q q =>
  ⟨a, b, ns, ms, rfl, rfl, ex_t e ha, ex_t e hb, q⟩

/-! ### reading a cell of the script -/
def cellv (ns : List Int) (k : Nat) : Int := ns.getD k 0
theorem cellv_in {ns : List Int} {k : Nat} (hk : k < ns.length) : (ns.map V.int)[k]? = some (.int (cellv ns k)) := by
  rw [List.getElem?_map, List.getElem?_eq_getElem hk]
  unfold cellv
  rw [List.getD_eq_getElem?_getD, List.getElem?_eq_getElem hk]
  rfl
theorem cellv_out {ns : List Int} {k : Nat} (hk : ns.length ≤ k) : cellv ns k = 0 := by
  unfold cellv
  rw [List.getD_eq_getElem?_getD, List.getElem?_eq_none hk]
  rfl
def spCel (K : PySem.W.Frag) : Sp := fun vs H Q _ => ∃ (a : Addr) (ns : List Int) (k : Nat), vs = [.ref a, .int (k : Int)] ∧ SqL K H a (ns.map V.int) ∧ RetV (.int (cellv ns k)) H Q
theorem sv_cell {a : Addr} {ns : List Int} {k : Nat} {z : Int} (h : SqL K H a (ns.map V.int)) (e : z = (k : Int)) : SpV (spCel K) [.ref a, .int z] H (.int (cellv ns k)) := fun H1 e1 Q q E =>
  ⟨a, ns, k, by rw [e], ex_l e1 h, fun H2 e2 => q H2 e2⟩
end
end LK

namespace K37
open PySem PySem.Spec PyProof.Rows L2 Evl LK LT LG LS LQ LX
/-! ### names: digits of base 40 -/
def alpha : Str := "abcdefghijklmnopqrstuvwxyz0123456789._-"
def AL : List Nat := alpha.cps.toList
def ix (c : Nat) : Nat := AL.idxOf c
theorem al_len : alpha.length = 39 := by decide +kernel
theorem al_find : ∀ c ∈ AL, Txt.find alpha ⟨#[c]⟩ = (ix c : Int) := by decide +kernel
theorem al_index : ∀ c ∈ AL, Txt.index0 alpha ⟨#[c]⟩ = some (ix c) := by decide +kernel
theorem ix_lt : ∀ c ∈ AL, ix c < 39 := by decide +kernel
theorem ix_inj : ∀ c ∈ AL, ∀ d ∈ AL, ix c = ix d → c = d := by decide +kernel
/-- the digits of l, n places -/
def vl : Nat → List Nat → Int
  | _, [] => 0
  | 0, _ :: _ => 0
  | n + 1, c :: r => ((ix c : Int) + 1) * 40 ^ n + vl n r
def hw (a : Int) (l : List Nat) : Int := l.foldl (fun w c => w * 40 + (ix c : Int) + 1) a
theorem hw_vl : ∀ (l : List Nat) (n : Nat) (a : Int), l.length ≤ n → hw a l * 40 ^ (n - l.length) = a * 40 ^ n + vl n l
  | [], n, a, _ => by
    show a * 40 ^ (n - 0) = a * 40 ^ n + vl n []
    have : vl n [] = 0 := by cases n <;> rfl
    rw [this, Nat.sub_zero, Int.add_zero]
  | c :: r, 0, a, h => by simp at h
  | c :: r, n + 1, a, h => by
    have ih := hw_vl r n (a * 40 + (ix c : Int) + 1) (by simpa using h)
    show hw (a * 40 + (ix c : Int) + 1) r * 40 ^ (n + 1 - (r.length + 1)) = a * 40 ^ (n + 1) + (((ix c : Int) + 1) * 40 ^ n + vl n r)
    rw [Nat.add_sub_add_right, ih, Int.pow_succ]
    generalize (40 : Int) ^ n = p
    rw [Int.add_assoc, Int.add_mul, Int.mul_assoc, Int.mul_comm 40 p, Int.add_assoc]
theorem p40 (n : Nat) : (0 : Int) < 40 ^ n := Int.pow_pos (by decide)
theorem vl_bounds : ∀ (l : List Nat) (n : Nat), l.length ≤ n → (∀ c ∈ l, c ∈ AL) → 0 ≤ vl n l ∧ vl n l < 40 ^ n
  | [], n, _, _ => by
    have : vl n [] = 0 := by cases n <;> rfl
    rw [this]
    exact ⟨Int.le_refl _, p40 n⟩
  | c :: r, 0, h, _ => by simp at h
  | c :: r, n + 1, h, hA => by
    obtain ⟨h1, h2⟩ := vl_bounds r n (by simpa using h) fun d hd => hA d (List.mem_cons_of_mem _ hd)
    have hc := ix_lt c (hA c List.mem_cons_self)
    show 0 ≤ ((ix c : Int) + 1) * 40 ^ n + vl n r ∧ ((ix c : Int) + 1) * 40 ^ n + vl n r < 40 ^ (n + 1)
    have hp := p40 n
    rw [Int.pow_succ]
    generalize (40 : Int) ^ n = p at *
    have m1 : ((ix c : Int) + 1) * p ≤ 39 * p := Int.mul_le_mul_of_nonneg_right (by omega) (by omega)
    have m2 : 0 ≤ ((ix c : Int) + 1) * p := Int.mul_nonneg (by omega) (by omega)
    omega
/-- by the first place where they differ -/
def ordL : List Nat → List Nat → Int
  | [], s => -(s.length : Int)
  | c :: r, [] => ((c :: r).length : Int)
  | c :: r, d :: s => if (ix c : Int) = (ix d : Int) then ordL r s else (ix c : Int) - (ix d : Int)
theorem ord_vl : ∀ (l m : List Nat) (n : Nat), l.length ≤ n → m.length ≤ n → (∀ c ∈ l, c ∈ AL) → (∀ c ∈ m, c ∈ AL) → (ordL l m = 0 ↔ vl n l = vl n m) ∧ (ordL l m < 0 ↔ vl n l < vl n m)
  | [], [], n, _, _, _, _ => by simp [ordL]
  | [], d :: s, 0, _, h, _, _ => by simp at h
  | c :: r, [], 0, h, _, _, _ => by simp at h
  | [], d :: s, n + 1, _, h, _, hm => by
    obtain ⟨h1, h2⟩ := vl_bounds s n (by simpa using h) fun x hx => hm x (List.mem_cons_of_mem _ hx)
    have hp := p40 n
    show (-((d :: s).length : Int) = 0 ↔ (0 : Int) = ((ix d : Int) + 1) * 40 ^ n + vl n s) ∧ (-((d :: s).length : Int) < 0 ↔ (0 : Int) < ((ix d : Int) + 1) * 40 ^ n + vl n s)
    generalize (40 : Int) ^ n = p at *
    have m2 : 1 * p ≤ ((ix d : Int) + 1) * p := Int.mul_le_mul_of_nonneg_right (by omega) (by omega)
    simp only [List.length_cons]
    omega
  | c :: r, [], n + 1, h, _, hl, _ => by
    obtain ⟨h1, h2⟩ := vl_bounds r n (by simpa using h) fun x hx => hl x (List.mem_cons_of_mem _ hx)
    have hp := p40 n
    show (((c :: r).length : Int) = 0 ↔ ((ix c : Int) + 1) * 40 ^ n + vl n r = (0 : Int)) ∧ (((c :: r).length : Int) < 0 ↔ ((ix c : Int) + 1) * 40 ^ n + vl n r < (0 : Int))
    generalize (40 : Int) ^ n = p at *
    have m2 : 1 * p ≤ ((ix c : Int) + 1) * p := Int.mul_le_mul_of_nonneg_right (by omega) (by omega)
    simp only [List.length_cons]
    omega
  | c :: r, d :: s, 0, h, _, _, _ => by simp at h
  | c :: r, d :: s, n + 1, h, h', hl, hm => by
    obtain ⟨h1, h2⟩ := vl_bounds r n (by simpa using h) fun x hx => hl x (List.mem_cons_of_mem _ hx)
    obtain ⟨h3, h4⟩ := vl_bounds s n (by simpa using h') fun x hx => hm x (List.mem_cons_of_mem _ hx)
    obtain ⟨i1, i2⟩ := ord_vl r s n (by simpa using h) (by simpa using h') (fun x hx => hl x (List.mem_cons_of_mem _ hx)) fun x hx => hm x (List.mem_cons_of_mem _ hx)
    have hp := p40 n
    show ((if (ix c : Int) = (ix d : Int) then ordL r s else (ix c : Int) - (ix d : Int)) = 0 ↔ ((ix c : Int) + 1) * 40 ^ n + vl n r = ((ix d : Int) + 1) * 40 ^ n + vl n s) ∧
      ((if (ix c : Int) = (ix d : Int) then ordL r s else (ix c : Int) - (ix d : Int)) < 0 ↔ ((ix c : Int) + 1) * 40 ^ n + vl n r < ((ix d : Int) + 1) * 40 ^ n + vl n s)
    generalize (40 : Int) ^ n = p at *
    by_cases e : (ix c : Int) = (ix d : Int)
    · rw [if_pos e, e, i1, i2]
      generalize ((ix d : Int) + 1) * p = z
      omega
    · rw [if_neg e]
      rcases Int.lt_or_gt_of_ne e with g | g
      · have m1 : ((ix c : Int) + 1 + 1) * p ≤ ((ix d : Int) + 1) * p := Int.mul_le_mul_of_nonneg_right (by omega) (by omega)
        rw [Int.add_mul ((ix c : Int) + 1), Int.one_mul] at m1
        omega
      · have m1 : ((ix d : Int) + 1 + 1) * p ≤ ((ix c : Int) + 1) * p := Int.mul_le_mul_of_nonneg_right (by omega) (by omega)
        rw [Int.add_mul ((ix d : Int) + 1), Int.one_mul] at m1
        omega
/-- a name -/
def Nm (z : Str) : Prop := 1 ≤ z.cps.toList.length ∧ z.cps.toList.length ≤ 11 ∧ (∀ c ∈ z.cps.toList, c ∈ AL) ∧ ∃ c ∈ z.cps.toList, c ≠ 46
theorem str_len (z : Str) : z.length = z.cps.toList.length := Array.length_toList.symm
/-! ### the digits of a word -/
def dig (l : List Nat) (k : Nat) : Nat := match l[k]? with
  | some c => ix c + 1
  | none => 0
def pw (l : List Nat) : Nat → Int
  | 0 => 0
  | k + 1 => pw l k * 40 + (dig l k : Int)
theorem dig_lt {l : List Nat} (hA : ∀ c ∈ l, c ∈ AL) (k : Nat) : dig l k < 40 := by
  unfold dig
  cases h : l[k]? with
  | none => exact (by decide : 0 < 40)
  | some c =>
    have := ix_lt c (hA c (List.mem_of_getElem? h))
    show ix c + 1 < 40
    omega
theorem pw_vl (l : List Nat) (n : Nat) (hn : l.length ≤ n) : ∀ k, k ≤ n → pw l k * 40 ^ (n - k) + vl (n - k) (l.drop k) = vl n l
  | 0, _ => by
    show 0 * 40 ^ (n - 0) + vl (n - 0) (l.drop 0) = vl n l
    rw [Int.zero_mul, Int.zero_add]
    rfl
  | k + 1, hk => by
    have ih := pw_vl l n hn k (by omega)
    rw [← ih]
    have e : n - k = (n - (k + 1)) + 1 := by omega
    show (pw l k * 40 + (dig l k : Int)) * 40 ^ (n - (k + 1)) + vl (n - (k + 1)) (l.drop (k + 1)) = _
    rw [e, Int.pow_succ]
    generalize (n - (k + 1)) = m at *
    by_cases hl : k < l.length
    · rw [List.drop_eq_getElem_cons hl]
      have hd : dig l k = ix l[k] + 1 := by
        unfold dig
        rw [List.getElem?_eq_getElem hl]
      rw [hd]
      show _ = pw l k * (40 ^ m * 40) + (((ix l[k] : Int) + 1) * 40 ^ m + vl m (l.drop (k + 1)))
      generalize (40 : Int) ^ m = p
      rw [Int.add_mul, Int.mul_assoc, Int.mul_comm 40 p]
      push_cast
      omega
    · have h1 : l.drop k = [] := List.drop_eq_nil_of_le (by omega)
      have h2 : l.drop (k + 1) = [] := List.drop_eq_nil_of_le (by omega)
      have hd : dig l k = 0 := by
        unfold dig
        rw [List.getElem?_eq_none (by omega)]
      have z1 : vl m [] = 0 := by cases m <;> rfl
      have z2 : vl (m + 1) [] = 0 := rfl
      rw [h1, h2, hd, z1, z2]
      generalize (40 : Int) ^ m = p
      rw [show (((0 : Nat) : Int)) = 0 from rfl]
      simp only [Int.add_zero]
      rw [Int.mul_assoc, Int.mul_comm 40 p]
theorem pw_all {l : List Nat} (h : l.length ≤ 11) : pw l 11 = vl 11 l := by
  have e := pw_vl l 11 h 11 (Nat.le_refl _)
  have z : l.drop 11 = [] := List.drop_eq_nil_of_le h
  rw [z] at e
  have z1 : vl (11 - 11) [] = 0 := rfl
  rw [z1, show 11 - 11 = 0 from rfl, Int.pow_zero, Int.mul_one, Int.add_zero] at e
  exact e
/-- the first k digits of a word that a name has -/
theorem word_hi {l : List Nat} (h : l.length ≤ 11) (hA : ∀ c ∈ l, c ∈ AL) (k : Nat) (hk : k ≤ 11) : vl 11 l / 40 ^ (11 - k) = pw l k := by
  have e := pw_vl l 11 h k hk
  obtain ⟨b1, b2⟩ := vl_bounds (l.drop k) (11 - k) (by rw [List.length_drop]; omega) fun c hc => hA c (List.mem_of_mem_drop hc)
  rw [← e]
  have hp := p40 (11 - k)
  generalize (40 : Int) ^ (11 - k) = p at *
  generalize vl (11 - k) (l.drop k) = r at *
  rw [Int.mul_comm, Int.mul_add_ediv_left _ _ (by omega), Int.ediv_eq_zero_of_lt b1 b2, Int.add_zero]
theorem word_dig {l : List Nat} (h : l.length ≤ 11) (hA : ∀ c ∈ l, c ∈ AL) (k : Nat) (hk : k < 11) : vl 11 l / 40 ^ (10 - k) % 40 = (dig l k : Int) := by
  have e := word_hi h hA (k + 1) hk
  rw [show 11 - (k + 1) = 10 - k by omega] at e
  rw [e]
  show (pw l k * 40 + (dig l k : Int)) % 40 = _
  have := dig_lt hA k
  omega
/-- a word below 40 ^ 11 with these digits is the word -/
theorem word_of {l : List Nat} {w : Int} (h : l.length ≤ 11) (h0 : 0 ≤ w) (h1 : w < 40 ^ 11) (hd : ∀ k, k < 11 → w / 40 ^ (10 - k) % 40 = (dig l k : Int)) : w = vl 11 l := by
  have st : ∀ k, k ≤ 11 → w / 40 ^ (11 - k) = pw l k := by
    intro k
    induction k with
    | zero => exact fun _ => Int.ediv_eq_zero_of_lt h0 h1
    | succ k ih =>
      intro hk
      have i := ih (by omega)
      have d := hd k (by omega)
      rw [show 11 - (k + 1) = 10 - k by omega]
      show w / 40 ^ (10 - k) = pw l k * 40 + (dig l k : Int)
      rw [← i, ← d]
      have q : w / 40 ^ (11 - k) = w / 40 ^ (10 - k) / 40 := by
        rw [Int.ediv_ediv_of_nonneg (Int.le_of_lt (p40 _)), show 11 - k = (10 - k) + 1 by omega, Int.pow_succ]
      rw [q]
      omega
  have e := st 11 (Nat.le_refl _)
  rw [show 11 - 11 = 0 from rfl, Int.pow_zero, Int.ediv_one, pw_all h] at e
  exact e
/-- by the digits the name -/
theorem dig_inj : ∀ {l m : List Nat}, (∀ c ∈ l, c ∈ AL) → (∀ c ∈ m, c ∈ AL) → (∀ k, dig l k = dig m k) → l = m
  | [], [], _, _, _ => rfl
  | [], d :: s, _, _, h => by
    have q := h 0
    simp [dig] at q
  | c :: r, [], _, _, h => by
    have q := h 0
    simp [dig] at q
  | c :: r, d :: s, hl, hm, h => by
    have q : ix c + 1 = ix d + 1 := h 0
    rw [ix_inj c (hl c List.mem_cons_self) d (hm d List.mem_cons_self) (by omega), dig_inj (fun x hx => hl x (List.mem_cons_of_mem _ hx)) (fun x hx => hm x (List.mem_cons_of_mem _ hx)) fun k => h (k + 1)]
def W (l : List Nat) : Int := vl 11 l
theorem W_inj {y z : Str} (hy : Nm y) (hz : Nm z) (e : W y.cps.toList = W z.cps.toList) : y.cps.toList = z.cps.toList := by
  refine dig_inj hy.2.2.1 hz.2.2.1 fun k => ?_
  by_cases hk : k < 11
  · have a := word_dig hy.2.1 hy.2.2.1 k hk
    have b := word_dig hz.2.1 hz.2.2.1 k hk
    unfold W at e
    rw [e, b] at a
    omega
  · have a : y.cps.toList[k]? = none := List.getElem?_eq_none (by have := hy.2.1; omega)
    have b : z.cps.toList[k]? = none := List.getElem?_eq_none (by have := hz.2.1; omega)
    unfold dig
    rw [a, b]
/-- what a name may begin with -/
def Hd (z : Str) : Prop := z.cps.toList.length ≤ 11 ∧ ∀ c ∈ z.cps.toList, c ∈ AL
theorem app_list (i j : Str) : (i ++ j).cps.toList = i.cps.toList ++ j.cps.toList := by
  show (i.cps ++ j.cps).toList = _
  simp
theorem one_list (c : Nat) : (⟨#[c]⟩ : Str).cps.toList = [c] := rfl
theorem str_ext {y z : Str} (h : y.cps.toList = z.cps.toList) : y = z := by
  cases y with
  | mk a => cases z with
    | mk b => exact congrArg Str.mk (Array.toList_inj.mp h)
theorem fold_app (k : Nat) (l acc : Array Nat) : ((List.replicate k l).foldl (· ++ ·) acc).toList = acc.toList ++ (List.replicate k l.toList).flatten := by
  induction k generalizing acc with
  | zero => simp
  | succ k ih =>
    rw [List.replicate_succ, List.foldl_cons, ih, List.replicate_succ, List.flatten_cons, Array.toList_append, List.append_assoc]
theorem mul_dots (n : Nat) : (Txt.mul (Str.ofString ".") (n : Int)).cps.toList = List.replicate n 46 := by
  have e : (Str.ofString ".").cps.toList = [46] := by decide +kernel
  have e1 : ((Str.ofString ".").length == 0) = false := by decide +kernel
  unfold Txt.mul
  by_cases h : (n : Int) < 1
  · rw [if_pos h]
    have : n = 0 := by omega
    subst this
    rfl
  · rw [if_neg h]
    by_cases h1 : (n : Int) = 1
    · have : n = 1 := by omega
      subst this
      rw [if_pos (by simp)]
      exact e
    · rw [if_neg (by rw [e1]; simpa using h1)]
      show ((List.replicate (n : Int).toNat (Str.ofString ".").cps).foldl (· ++ ·) #[]).toList = _
      rw [fold_app, e, Int.toNat_natCast]
      show [] ++ (List.replicate n [46]).flatten = _
      rw [List.nil_append]
      induction n with
      | zero => rfl
      | succ k ih => exact flat_ones (k + 1)
where
  flat_ones : ∀ k : Nat, (List.replicate k [46]).flatten = List.replicate k 46
    | 0 => rfl
    | k + 1 => by
      rw [List.replicate_succ, List.flatten_cons, flat_ones k, List.replicate_succ]
      rfl
theorem dots_nm {z : Str} (h : Hd z) (h1 : 1 ≤ z.cps.toList.length) (hne : ¬ z = Txt.mul (Str.ofString ".") (z.length : Int)) : Nm z := by
  refine ⟨h1, h.1, h.2, Classical.byContradiction fun hc => hne (str_ext ?_)⟩
  rw [str_len, mul_dots]
  exact List.eq_replicate_iff.mpr ⟨rfl, fun c hm => Classical.byContradiction fun e => hc ⟨c, hm, e⟩⟩
theorem cut_tail (z : Str) : (cutS z (some 1) none).cps.toList = z.cps.toList.drop 1 := by
  unfold cutS
  rw [show HT.sIx z.length 0 (some 1) = min 1 z.length from HT.sIx_nat z.length 0 1, HT.sIx_none, str_len]
  show (z.cps.toList.drop (min 1 z.cps.toList.length)).take _ = _
  rw [List.take_of_length_le (by rw [List.length_drop]; omega)]
  cases z.cps.toList with
  | nil => rfl
  | cons c r => rw [Nat.min_eq_left (by simp)]
theorem cut_head (z : Str) (k : Nat) : (cutS z none (some (k : Int))).cps.toList = z.cps.toList.take k := by
  unfold cutS
  rw [HT.sIx_nat, HT.sIx_none, str_len]
  show (z.cps.toList.drop 0).take _ = _
  rw [List.drop_zero, Nat.sub_zero, List.take_eq_take_iff]
  omega
theorem a_in : (97 : Nat) ∈ AL := by decide +kernel
theorem a_str : (Str.ofString "a").cps.toList = [97] := by decide +kernel
theorem small {z : Str} (h : z.cps.toList.length ≤ 300) : z.length ≤ sizeLine := by
  rw [str_len]
  exact Nat.le_trans h (by decide)
theorem find_out {c : Nat} (h : c ∉ AL) : Txt.find alpha ⟨#[c]⟩ = -1 := by
  have e := PySem.StrLaws.found_one alpha c
  rw [decide_eq_false (show ¬ c ∈ alpha.cps.toList from h)] at e
  unfold Txt.find
  cases q : Builtin.Str.occurrences alpha ⟨#[c]⟩ 0 alpha.length 1 with
  | nil => rfl
  | cons i r =>
    rw [q] at e
    cases e
def nmB (l : List Nat) : Bool := (decide (1 ≤ l.length) && decide (l.length ≤ 11)) && ((l.all fun c => decide (c ∈ AL)) && l.any fun c => [c] != [46])
theorem nm_iff (z : Str) : Nm z ↔ nmB z.cps.toList = true := by
  unfold Nm nmB
  simp only [Bool.and_eq_true, decide_eq_true_eq, List.all_eq_true, List.any_eq_true]
  constructor
  · rintro ⟨h1, h2, h3, c, hc, hn⟩
    exact ⟨⟨h1, h2⟩, h3, c, hc, by simpa using hn⟩
  · rintro ⟨⟨h1, h2⟩, h3, c, hc, hn⟩
    exact ⟨h1, h2, h3, c, hc, by simpa using hn⟩
/-- all dots -/
theorem dots_iff (z : Str) : z = Txt.mul (Str.ofString ".") (z.length : Int) ↔ ∀ c ∈ z.cps.toList, c = 46 := by
  constructor
  · intro e c hc
    have h : z.cps.toList = List.replicate z.length 46 := by
      have q : z.cps.toList = (Txt.mul (Str.ofString ".") (z.length : Int)).cps.toList := congrArg (fun s : Str => s.cps.toList) e
      rw [mul_dots] at q
      exact q
    rw [h] at hc
    exact (List.mem_replicate.mp hc).2
  · intro h
    refine str_ext ?_
    rw [str_len, mul_dots]
    exact List.eq_replicate_iff.mpr ⟨rfl, h⟩

def top (i : Nat) : Stmt := PySem.Challenge.pw_laminae_k37_paths_split.main.body.getD i (.Pass ⟨0, 0, 0, 0⟩)
abbrev sIs : Stmt := top 7
theorem scIs : FnScope ["name"] ["name"] (defScope sIs) := ⟨rfl, rfl, rfl, by decide +kernel, rfl, by decide +kernel, by decide +kernel⟩
abbrev sWord : Stmt := top 8
theorem scWord : FnScope ["name", "word", "letter", "_"] ["name"] (defScope sWord) := ⟨rfl, rfl, rfl, by decide +kernel, rfl, by decide +kernel, by decide +kernel⟩
abbrev sNin : Stmt := top 12
theorem scNin : FnScope ["text", "names", "name"] ["text"] (defScope sNin) := ⟨rfl, rfl, rfl, by decide +kernel, rfl, by decide +kernel, by decide +kernel⟩
abbrev sSp : Stmt := top 11
theorem scSp : FnScope ["path", "volume", "slash", "rest"] ["path"] (defScope sSp) := ⟨rfl, rfl, rfl, by decide +kernel, rfl, by decide +kernel, by decide +kernel⟩
abbrev sLns : Stmt := top 19
theorem scLns : FnScope ["text", "parts", "words", "word", "part"] ["text"] (defScope sLns) := ⟨rfl, rfl, rfl, by decide +kernel, rfl, by decide +kernel, by decide +kernel⟩
abbrev sDue : Stmt := top 20
theorem scDue : FnScope ["path", "volume", "rest", "place", "words"] ["path"] (defScope sDue) := ⟨rfl, rfl, rfl, by decide +kernel, rfl, by decide +kernel, by decide +kernel⟩
abbrev sTold : Stmt := top 21
theorem scTold : FnScope ["path", "error"] ["path"] (defScope sTold) := ⟨rfl, rfl, rfl, by decide +kernel, rfl, by decide +kernel, by decide +kernel⟩
abbrev sPath : Stmt := top 18
theorem scPath : FnScope ["script", "digits", "name", "starts", "count", "names", "path", "k"] ["script"] (defScope sPath) := ⟨rfl, rfl, rfl, by decide +kernel, rfl, by decide +kernel, by decide +kernel⟩
abbrev sLn : Stmt := top 17
theorem scLn : FnScope ["cell", "alphabet", "odd", "digits", "size", "k"] ["cell"] (defScope sLn) := ⟨rfl, rfl, rfl, by decide +kernel, rfl, by decide +kernel, by decide +kernel⟩
abbrev sDg : Stmt := top 15
theorem scDg : FnScope ["cell", "bases", "digits", "rest", "base", "mixed"] ["cell", "bases"] (defScope sDg) := ⟨rfl, rfl, rfl, by decide +kernel, rfl, by decide +kernel, by decide +kernel⟩
abbrev sCel : Stmt := top 14
theorem scCel : FnScope ["script", "k"] ["script", "k"] (defScope sCel) := ⟨rfl, rfl, rfl, by decide +kernel, rfl, by decide +kernel, by decide +kernel⟩
abbrev sLw : Stmt := top 16
theorem scLw : FnScope ["text", "alphabet", "word", "k", "digit"] ["text"] (defScope sLw) := ⟨rfl, rfl, rfl, by decide +kernel, rfl, by decide +kernel, by decide +kernel⟩
abbrev sLaw : Stmt := top 22
theorem scLaw : FnScope ["script", "k", "path", "due", "told", "word"] ["script"] (defScope sLaw) := ⟨rfl, rfl, rfl, by decide +kernel, rfl, by decide +kernel, by decide +kernel⟩
structure Txt (mg : Str → Option Value) (tA tB tL tM : Tok) : Prop where
  len : mg "len" = none
  range : mg "range" = none
  int : mg "int" = none
  min : mg "min" = none
  isinstance : mg "isinstance" = none
  bool : mg "bool" = none
  str : mg "str" = none
  list : mg "list" = none
  tuple : mg "tuple" = none
  all : mg "all" = none
  any : mg "any" = none
  gALPHABET : mg "ALPHABET" = some (.str alpha tA)
  gBASE : mg "BASE" = some (.int 40 tB)
  gLONGEST_NAME : mg "LONGEST_NAME" = some (.int 11 tL)
  gMAX_NAMES : mg "MAX_NAMES" = some (.int 8 tM)
def spIs (Pt : Addr) : Sp := fun vs H Q _ => ∃ z : Str, vs = [.str z] ∧ z.cps.toList.length ≤ 300 ∧ Tab H Pt ∧ RetV (.bl (nmB z.cps.toList)) H Q
/-- returns the word of a name, raises BadName for any other text -/
def spWord (Pt CB : Addr) : Sp := fun vs H Q E => ∃ z : Str, vs = [.str z] ∧ z.cps.toList.length ≤ 300 ∧ Tab H Pt ∧ (Nm z → RetV (.int (W z.cps.toList)) H Q) ∧ (¬ Nm z → ∀ H', Ex H H' → E (.ref CB) none H')
section
variable {P : Program} {w : World} {K : PySem.W.Frag} {mg : Str → Option Value} {base : Heap} {tA tB tL tM : Tok}
theorem ok_is {f c Pt : Addr} {fd : FuncData} (F : FunC K "is_name" "is_name" sIs f fd c) (TB : LamX.TabB base mg c Pt) (T : Txt mg tA tB tL tM) : FnOk P w K mg base CX0 1 f fd ["name"] (spIs Pt) := by
  refine F.ok scIs (fun vs H Q E h => ?_) (fun A outer s H vs Q E hr h => ?_)
  · obtain ⟨z, rfl, _⟩ := h
    rfl
  · obtain ⟨z, rfl, hl, hT, q⟩ := h
    have hz : z.length = z.cps.toList.length := str_len z
    refine ⟨_, (pss_cons (ps_if (PW.pt (pw_or (pt_not (pt_val (pe_callB call_isi (by rfl) T.isinstance (by decide +kernel) (pa_cons (pv 0) (pa_cons (pe_bltn (v := .ty "str") (u := .type "str") (by rfl) T.str (by decide +kernel) rfl) pa_nil))))) (pw_or1 (pt_not (pt_chain op_le op_le pe_int (pe_callB call_len_str (by rfl) T.len (by decide +kernel) (pa_cons (pv 0) pa_nil)) (pe_glob (v := .int 11) rfl T.gLONGEST_NAME ⟨_, rfl⟩)))))) (pss_one (ps_ret pe_bl)) pss_nil)
      (pss_one (ps_ret (pe_and (pe_all hr (by rfl) T.all (by decide +kernel) TB rfl ⟨rfl, rfl, by decide +kernel, rfl, rfl, fun y hy e => absurd e ((by decide +kernel : ∀ y ∈ _, y.2 ≠ NameKind.free) y hy)⟩ (pv 0) (fun _ => rfl)) (pe_one (pe_any hr (by rfl) T.any TB rfl ⟨rfl, rfl, by decide +kernel, rfl, rfl, fun y hy e => absurd e ((by decide +kernel : ∀ y ∈ _, y.2 ≠ NameKind.free) y hy)⟩ (pv 0) (fun _ => rfl))))))), ?_⟩
    refine q_when (b := !(decide (1 ≤ z.cps.toList.length) && decide (z.cps.toList.length ≤ 11))) (et_is (et_or (et_not (et_B (ev_isi (ev_var rfl) ev_c (fun _ _ => .base (.str z)) (kit_ty rfl)))) (fun _ => et_not (et_chain ev_c (ev_lenS (ev_var rfl) (small hl)) ev_c))) (by
      rw [hz]
      show (false || !(decide ((1 : Int) ≤ (z.cps.toList.length : Int)) && decide ((z.cps.toList.length : Int) ≤ 11))) = _
      rw [Bool.false_or, show decide ((1 : Int) ≤ (z.cps.toList.length : Int)) = decide (1 ≤ z.cps.toList.length) from decide_eq_decide.mpr (by omega), show decide ((z.cps.toList.length : Int) ≤ 11) = decide (z.cps.toList.length ≤ 11) from decide_eq_decide.mpr (by omega)])) (fun hb H1 e1 => ?_) (fun hb H1 e1 => ?_)
    · have hf : nmB z.cps.toList = false := by
        unfold nmB
        cases hq : (decide (1 ≤ z.cps.toList.length) && decide (z.cps.toList.length ≤ 11)) with
        | false => rfl
        | true =>
          rw [hq] at hb
          cases hb
      rw [hf] at q
      exact s_ret ev_c fun H2 e2 => q H2 (e1.trans e2)
    · refine s_ret (ev_is (ev_andV (ev_gen (f := fun i => decide (z.cps.toList.getD i 0 ∈ AL)) (ev_var rfl) (hT.mono e1) (fun H2 _ => src_str z) (fun H2 e2 i u hi hu => qv_cmp qr_in_sign (qv_x rfl rfl hu) (qv_glob rfl rfl T.gALPHABET ⟨_, rfl⟩) rfl))
        (fun _ => ev_gen (f := fun i => [z.cps.toList.getD i 0] != [46]) (ev_var rfl) (hT.mono e1) (fun H2 _ => src_str z) (fun H2 e2 i u hi hu => qv_cmp qr_ne_str (qv_x rfl rfl hu) qv_str (nomark _)))) ?_) fun H2 e2 => q H2 (e1.trans e2)
      rw [allF_list z.cps.toList 0 (fun c => decide (c ∈ AL)), anyF_list z.cps.toList 0 (fun c => [c] != [46])]
      unfold nmB
      cases hq : (decide (1 ≤ z.cps.toList.length) && decide (z.cps.toList.length ≤ 11)) with
      | true => rw [Bool.true_and]
      | false =>
        rw [hq] at hb
        cases hb
theorem ok_word {f fI Pt CB : Addr} {fd fdI : FuncData} (F : Fun K "name_word" "name_word" sWord f fd) (FI : Fun K "is_name" "is_name" sIs fI fdI) (GI : FnOk P w K mg base CX0 1 fI fdI ["name"] (spIs Pt)) (bI : Binds K fdI ["name"] []) (gI : mg "is_name" = some (.ref fI)) (T : Txt mg tA tB tL tM) (XB : Xc K mg "BadName" CB) : FnOk P w K mg base (L2.CX P w) 2 f fd ["name"] (spWord Pt CB) := by
  refine F.okX scWord (fun vs H Q E h => ?_) (fun cdv A outer s H vs Q E hr h => ?_)
  · obtain ⟨z, rfl, _⟩ := h
    rfl
  · obtain ⟨z, rfl, hl, hT, q, qE⟩ := h
    refine ⟨_, (pss_cons (ps_if (pt_not (pt_val (pe_call GI hr (by rfl) gI FI.kp bI .nil pass0 (pa_cons (pv 0) pa_nil)))) (pss_one (ps_raise0 rfl XB (takes_of rfl rfl rfl rfl) (by rfl))) pss_nil)
      (pss_cons (ps_set (i := 1) scWord.nd rfl (Or.inl rfl) pe_int)
      (pss_cons (ps_for (passes_of rfl) rfl (pi_str (pv 0)) (pg_name (i := 2) scWord.nd rfl (Or.inl rfl)) (pss_one (ps_set (i := 1) scWord.nd rfl (Or.inl rfl) (pe_op op_add (pe_op op_add (pe_op op_mul (pv 1) (pe_glob (v := .int 40) rfl T.gBASE ⟨_, rfl⟩)) (pe_bmS PySem.F.plainAttrs_str PySem.F.slot_str_index PySem.F.type_str_index (mt_indexX rfl takes0) (pe_glob (v := .str alpha) rfl T.gALPHABET ⟨_, rfl⟩) (pa_cons (pv 2) pa_nil))) pe_int))))
      (pss_cons (ps_for (passes_of rfl) rfl (pi_range1 (by rfl) T.range (pa_cons (pe_op op_sub (pe_glob (v := .int 11) rfl T.gLONGEST_NAME ⟨_, rfl⟩) (pe_callB call_len_str (by rfl) T.len (by decide +kernel) (pa_cons (pv 0) pa_nil))) pa_nil)) (pg_name (i := 3) scWord.nd rfl (Or.inl rfl)) (pss_one (ps_set (i := 1) scWord.nd rfl (Or.inl rfl) (pe_op op_mul (pv 1) (pe_glob (v := .int 40) rfl T.gBASE ⟨_, rfl⟩)))))
      (pss_one (ps_ret (pv 1))))))), ?_⟩
    refine q_when (et_not (et_B (ev_call (vs := [.str z]) (z := .bl (nmB z.cps.toList)) (ea_cons (ev_var rfl) ea_nil) (fun H1 e1 Q' q' E' => ⟨z, rfl, hl, hT.mono e1, q'⟩)))) (fun hb H1 e1 => ?_) (fun hb H1 e1 => ?_)
    · exact qE (fun hN => by rw [(nm_iff z).mp hN] at hb; cases hb) H1 e1
    · have hN : Nm z := (nm_iff z).mpr (by simpa using hb)
      replace q := q hN
      obtain ⟨n1, n2, n3, n4⟩ := id hN
      have hz : z.length = z.cps.toList.length := str_len z
      refine q_asg ev_c fun H2 e2 => ?_
      refine q_forS (ev_var rfl) (fun i σ' H' => ∃ y2, σ' = [some (.str z), some (.int (hw 0 (z.cps.toList.take i))), y2, none] ∧ Ex H H') (fun H3 e3 => ⟨none, rfl, (e1.trans e2).trans e3⟩) ?_ ?_
      · rintro i c σ' H' hc ⟨y2, rfl, e0⟩
        have hA := n3 c (List.mem_of_getElem? hc)
        refine s_asg (ev_is (ev_op (ev_op (ev_op (ev_var rfl) ev_c (rv_I (.inr ⟨by decide, by decide⟩))) (ev_index ev_c (ea_cons (ev_var rfl) ea_nil) (al_index c hA)) rv_I0) ev_c rv_I0) (w := .int (hw 0 (z.cps.toList.take (i + 1)))) ?_) fun H2 e2 => ⟨_, rfl, e0.trans e2⟩
        rw [List.take_add_one, hc]
        unfold hw
        rw [List.foldl_append]
        rfl
      · rintro σ' H' ⟨y2, rfl, e0⟩
        rw [List.take_length]
        have hn : (0 : Int) ≤ 11 - (z.length : Int) ∧ (11 : Int) - (z.length : Int) ≤ 100000 := by omega
        refine q_forR1 (n := 11 - (z.length : Int)) (ea_cons (ev_op ev_c (ev_lenS (ev_var rfl) (small hl)) rv_I0) ea_nil) hn (fun i σ' H' => ∃ y3, σ' = [some (.str z), some (.int (hw 0 z.cps.toList * 40 ^ i)), y2, y3] ∧ Ex H H') (fun H3 e3 => ⟨none, by rw [Int.pow_zero, Int.mul_one], e0.trans e3⟩) ?_ ?_
        · rintro i σ' H' hi ⟨y3, rfl, e0⟩
          refine s_asg (ev_is (ev_op (ev_var rfl) ev_c (rv_I (.inr ⟨by decide, by decide⟩))) (w := .int (hw 0 z.cps.toList * 40 ^ (i + 1))) (by rw [Int.pow_succ, Int.mul_assoc])) fun H2 e2 => ⟨_, rfl, e0.trans e2⟩
        · rintro σ' H' ⟨y3, rfl, e0⟩
          have e : hw 0 z.cps.toList * 40 ^ (11 - (z.length : Int)).toNat = W z.cps.toList := by
            have k := hw_vl z.cps.toList 11 0 n2
            rw [Int.zero_mul, Int.zero_add] at k
            rw [show (11 - (z.length : Int)).toNat = 11 - z.cps.toList.length by omega]
            exact k
          rw [e]
          exact s_ret (ev_var rfl) fun H2 e2 => q H2 (e0.trans e2)
theorem ok_cell {f : Addr} {fd : FuncData} (F : Fun K "_law_cell" "_law_cell" sCel f fd) (T : Txt mg tA tB tL tM) : FnOk P w K mg base CX0 1 f fd ["script", "k"] (spCel K) := by
  refine F.ok scCel (fun vs H Q E h => ?_) (fun cdv A outer s H vs Q E hr h => ?_)
  · obtain ⟨a, ns, k, rfl, _⟩ := h
    rfl
  · obtain ⟨a, ns, k, rfl, hS, q⟩ := h
    refine ⟨_, (pss_cons (ps_if (pt_cmpR op_lt (pv 1) (pe_callB call_len_seq (by rfl) T.len (by decide +kernel) (pa_cons (pv 0) pa_nil)) (nomark _)) (pss_one (ps_ret (pe_callTy call_int1 (by rfl) T.int (by decide +kernel) (pa_cons (pe_ix ix_list (pv 0) (pv 1) (fun _ _ => rfl)) pa_nil)))) pss_nil)
      (pss_one (ps_ret pe_int))), ?_⟩
    refine q_when (et_test (ev_op (ev_var rfl) (ev_len (ev_var rfl) hS) rv_I0)) (fun hb H1 e1 => ?_) (fun hb H1 e1 => ?_)
    · have hk : k < ns.length := by
        have := of_decide_eq_true hb
        rw [List.length_map] at this
        omega
      exact s_ret (ev_cb (ea_cons (ev_op (ev_var rfl) (ev_var rfl) (rv_ixL (ex_l e1 hS) (atI_nat (cellv_in hk)))) ea_nil) (fun H1 _ Q q => .inl ⟨_, rfl, q _ (Ex.refl _)⟩)) fun H2 e2 => q H2 (e1.trans e2)
    · have hk : ns.length ≤ k := by
        have := of_decide_eq_false hb
        rw [List.length_map] at this
        omega
      rw [cellv_out hk] at q
      exact s_ret ev_c fun H2 e2 => q H2 (e1.trans e2)
/-- as many digits as bases, each below its base -/
def Digs (bs ds : List Int) : Prop := ds.length = bs.length ∧ ∀ (k : Nat) (d b : Int), ds[k]? = some d → bs[k]? = some b → 0 ≤ d ∧ d < b
def spDg (K : PySem.W.Frag) : Sp := fun vs H Q _ => ∃ (c : Int) (a : Addr) (bs : List Int), vs = [.int c, .ref a] ∧ SqL K H a (bs.map V.int) ∧ bs.length ≤ 16 ∧ (∀ b ∈ bs, 0 < b ∧ b ≤ 1000) ∧ ∀ (p : Addr) (H' : Hp) (ds : List Int), H p = none → Ex H H' → H' p = some (.lst (ds.map V.int)) → Digs bs ds → Q (.ref p) H'
theorem digs_snoc {bs ds : List Int} {i : Nat} {d b : Int} (hl : ds.length = i) (hd : ∀ (k : Nat) (d b : Int), ds[k]? = some d → bs[k]? = some b → 0 ≤ d ∧ d < b) (hb : bs[i]? = some b) (h0 : 0 ≤ d) (h1 : d < b) : (ds ++ [d]).length = i + 1 ∧ ∀ (k : Nat) (d' b : Int), (ds ++ [d])[k]? = some d' → bs[k]? = some b → 0 ≤ d' ∧ d' < b := by
  refine ⟨by rw [List.length_append, hl]; rfl, fun k d' b' e1 e2 => ?_⟩
  by_cases hk : k < ds.length
  · rw [List.getElem?_append_left hk] at e1
    exact hd k d' b' e1 e2
  · rw [List.getElem?_append_right (by omega)] at e1
    have hk0 : k - ds.length = 0 := by
      cases q : k - ds.length with
      | zero => rfl
      | succ n =>
        rw [q] at e1
        cases e1
    rw [hk0] at e1
    cases e1
    have : k = i := by omega
    subst this
    rw [hb] at e2
    cases e2
    exact ⟨h0, h1⟩
theorem ok_dg {f : Addr} {fd : FuncData} (F : Fun K "_law_digits" "_law_digits" sDg f fd) (T : Txt mg tA tB tL tM) : FnOk P w K mg base CX0 1 f fd ["cell", "bases"] (spDg K) := by
  refine F.ok scDg (fun vs H Q E h => ?_) (fun cdv A outer s H vs Q E hr h => ?_)
  · obtain ⟨c, a, bs, rfl, _⟩ := h
    rfl
  · obtain ⟨c, a, bs, rfl, hS, hlen, hpos, q⟩ := h
    refine ⟨_, (pss_cons (ps_set (i := 2) scDg.nd rfl (Or.inl rfl) (pe_lst pa_nil))
      (pss_cons (ps_set (i := 3) scDg.nd rfl (Or.inl rfl) (pe_callTy call_int1 (by rfl) T.int (by decide +kernel) (pa_cons (pv 0) pa_nil)))
      (pss_cons (ps_for PassesOwn.never rfl (pi_list (pv 1)) (pg_name (i := 4) scDg.nd rfl (Or.inl rfl)) (pss_one (ps_if (pt_cmpR op_ge (pv 0) (pe_op op_pow pe_int pe_int) (nomark _)) (pss_cons (ps_expr (pe_bm PySem.F.plainAttrs_list PySem.F.slot_list_append PySem.F.type_list_append mt_append (pv 2) (pa_cons (pe_op op_mod (pe_callTy call_int1 (by rfl) T.int (by decide +kernel) (pa_cons (pv 3) pa_nil)) (pv 4)) pa_nil)))
      (pss_one (ps_set (i := 3) scDg.nd rfl (Or.inl rfl) (pe_op op_fdiv (pv 3) (pv 4))))) (pss_cons (ps_set (i := 3) scDg.nd rfl (Or.inl rfl) (pe_op op_mod (pe_op op_add (pe_op op_add (pe_op op_mul (pe_callTy call_int1 (by rfl) T.int (by decide +kernel) (pa_cons (pv 3) pa_nil)) pe_int) (pe_op op_mul pe_int (pe_callB call_len_seq (by rfl) T.len (by decide +kernel) (pa_cons (pv 2) pa_nil)))) pe_int) pe_int))
      (pss_cons (ps_set (i := 5) scDg.nd rfl (Or.inl rfl) (pe_op op_mod (pe_op op_mul (pe_callTy call_int1 (by rfl) T.int (by decide +kernel) (pa_cons (pv 3) pa_nil)) (pe_callTy call_int1 (by rfl) T.int (by decide +kernel) (pa_cons (pv 3) pa_nil))) pe_int))
      (pss_one (ps_expr (pe_bm PySem.F.plainAttrs_list PySem.F.slot_list_append PySem.F.type_list_append mt_append (pv 2) (pa_cons (pe_op op_mod (pe_op op_fdiv (pe_callTy call_int1 (by rfl) T.int (by decide +kernel) (pa_cons (pv 5) pa_nil)) pe_int) (pv 4)) pa_nil)))))))))
      (pss_one (ps_ret (pv 2)))))), ?_⟩
    have toI : ∀ {σ : L2.St} {H1 : Hp} {t : TE} {z : Int}, Ev t σ H1 (.int z) → Ev (tCB (fun xs H Q => (∃ i, xs = [V.int i] ∧ Q (.int i) H) ∨ ∃ k, xs = [V.bl k] ∧ Q (.int (if k then 1 else 0)) H) (tCons t tNil)) σ H1 (.int z) := fun h => ev_cb (ea_cons h ea_nil) (fun H1 _ Q q => .inl ⟨_, rfl, q _ (Ex.refl _)⟩)
    refine q_asgL (el_lst ea_nil (by decide)) fun dl H1 hdl e1 h1 => ?_
    refine q_asg (toI (ev_var rfl)) fun H2 e2 => ?_
    refine q_forLn (ev_var rfl) (ex_l (e1.trans e2) hS) (fun i σ' H' => ∃ (r : Int) (y4 y5 : Option V) (ds : List Int), σ' = [some (.int c), some (.ref a), some (.ref dl), some (.int r), y4, y5] ∧ Ex H H' ∧ H' dl = some (.lst (ds.map V.int)) ∧ ds.length = i ∧ ∀ (k : Nat) (d b : Int), ds[k]? = some d → bs[k]? = some b → 0 ≤ d ∧ d < b)
      (fun H3 e3 => ⟨c, none, none, [], rfl, (e1.trans e2).trans e3, (e2.trans e3) _ _ h1, rfl, fun k d b e => by simp at e⟩) (fun i σ' H' _ ⟨_, _, _, _, _, e0, _⟩ => ex_l e0 hS) ?_ ?_
    · rintro i x σ' H' hx ⟨r, y4, y5, ds, rfl, e0, hd, hl, hb⟩
      have hi : i < bs.length := by
        have := (List.getElem?_eq_some_iff.mp hx).1
        rwa [List.length_map] at this
      have hbi : bs[i]? = some bs[i] := List.getElem?_eq_getElem hi
      have ex : x = .int bs[i] := by
        rw [List.getElem?_map, hbi] at hx
        exact (Option.some.inj hx).symm
      subst ex
      obtain ⟨hp, hp2⟩ := hpos bs[i] (List.getElem_mem hi)
      generalize bs[i] = b at hp hp2 hbi
      refine s_if (et_test (ev_op (ev_var rfl) (ev_op ev_c ev_c (rv_I ⟨by decide, by decide, by decide⟩)) rv_I0)) (fun _ H3 e3 => ?_) (fun _ H3 e3 => ?_)
      · refine q_app (v := .int (r % b)) (e3 _ _ hd) (ev_var rfl) (ev_op (toI (ev_var rfl)) (ev_var rfl) (rv_I (by show (0 : Int) < b; exact hp))) (by rw [List.length_map]; omega) fun H4 e4 => ?_
        refine s_asg (ev_op (ev_var rfl) (ev_var rfl) (rv_I ⟨by omega, by omega⟩)) fun H5 e5 => ⟨_, _, _, ds ++ [r % b], rfl, ((e0.trans e3).trans e4).mut hdl |>.trans e5, ?_, digs_snoc hl hb hbi (Int.emod_nonneg _ (by omega)) (Int.emod_lt_of_pos _ hp)⟩
        rw [e5 dl _ upd_same, List.map_append]
        rfl
      · refine q_asg (ev_op (ev_op (ev_op (ev_op (toI (ev_var rfl)) ev_c (rv_I (.inr ⟨by decide, by decide⟩))) (ev_op ev_c (ev_len (ev_var rfl) (sq_of (e3 _ _ hd))) (rv_I (.inl ⟨by decide, by decide⟩))) rv_I0) ev_c rv_I0) ev_c (rv_I (by show (0 : Int) < 2147483647; decide))) fun H4 e4 => ?_
        have r0 := Int.emod_nonneg (r * 48271 + 1009 * ((ds.map V.int).length : Int) + 12345) (show (2147483647 : Int) ≠ 0 by decide)
        have r1 := Int.emod_lt_of_pos (r * 48271 + 1009 * ((ds.map V.int).length : Int) + 12345) (show (0 : Int) < 2147483647 by decide)
        generalize (r * 48271 + 1009 * ((ds.map V.int).length : Int) + 12345) % 2147483647 = r2 at r0 r1
        refine q_asg (ev_op (ev_op (toI (ev_var rfl)) (toI (ev_var rfl)) (rv_I (.inl ⟨by omega, by omega⟩))) ev_c (rv_I (by show (0 : Int) < 2147483629; decide))) fun H5 e5 => ?_
        generalize r2 * r2 % 2147483629 = m
        refine s_app (v := .int (m / 13 % b)) ((e3.trans (e4.trans e5)) _ _ hd) (ev_var rfl) (ev_op (ev_op (toI (ev_var rfl)) ev_c (rv_I ⟨by decide, by decide⟩)) (ev_var rfl) (rv_I (by show (0 : Int) < b; exact hp))) (by rw [List.length_map]; omega) fun H6 e6 => ⟨_, _, _, ds ++ [m / 13 % b], rfl, ((e0.trans e3).trans ((e4.trans e5).trans e6)).mut hdl, ?_, digs_snoc hl hb hbi (Int.emod_nonneg _ (by omega)) (Int.emod_lt_of_pos _ hp)⟩
        rw [upd_same, List.map_append]
        rfl
    · rintro σ' H' ⟨r, y4, y5, ds, rfl, e0, hd, hl, hb⟩
      rw [List.length_map] at hl
      exact s_ret (ev_var rfl) fun H2 e2 => q dl H2 ds hdl (e0.trans e2) (e2 _ _ hd) ⟨hl, hb⟩
end
end K37

set_option Elab.async false
set_option linter.all false
set_option maxRecDepth 100000
set_option maxHeartbeats 4000000
namespace K37
open PySem PySem.Spec PyProof.Rows L2 Evl LK LT LG LS LQ LX
/-! ### lengths -/
theorem fold_len (g : Array Nat) : ∀ (r : List Str) (acc : Array Nat), (r.foldl (fun acc p => acc ++ g ++ p.cps) acc).size = acc.size + (r.map (·.length)).sum + r.length * g.size
  | [], acc => by simp
  | p :: r, acc => by
    rw [List.foldl_cons, fold_len g r, List.map_cons, List.sum_cons, List.length_cons, Nat.succ_mul, Array.size_append, Array.size_append]
    show acc.size + g.size + p.length + _ + _ = _
    omega
theorem join_le (sep : Str) (ys : List Str) : (Txt.join sep ys).length ≤ (ys.map (·.length)).sum + ys.length * sep.length := by
  show (Builtin.Str.glued sep ys).length ≤ _
  cases ys with
  | nil => exact Nat.zero_le _
  | cons a r =>
    show (r.foldl (fun acc p => acc ++ sep.cps ++ p.cps) a.cps).size ≤ _
    rw [fold_len, List.map_cons, List.sum_cons, List.length_cons, Nat.succ_mul]
    show a.length + _ + r.length * sep.length ≤ _
    omega
theorem sum_le {m : Nat} : ∀ ys : List Str, (∀ y ∈ ys, y.length ≤ m) → (ys.map (·.length)).sum ≤ ys.length * m
  | [], _ => Nat.le_of_eq (by simp)
  | y :: r, h => by
    have ih := sum_le r fun x hx => h x (List.mem_cons_of_mem _ hx)
    have hy := h y List.mem_cons_self
    rw [List.map_cons, List.sum_cons, List.length_cons, Nat.succ_mul]
    omega
theorem sum_ones : ∀ ys : List Str, (∀ y ∈ ys, y.length = 1) → (ys.map (·.length)).sum = ys.length
  | [], _ => rfl
  | y :: r, h => by
    rw [List.map_cons, List.sum_cons, sum_ones r fun x hx => h x (List.mem_cons_of_mem _ hx), h y List.mem_cons_self, List.length_cons]
    omega
theorem strs_of : ∀ (xs : List V) (m : Nat), (∀ (i : Nat) y, xs[i]? = some y → ∃ z : Str, y = .str z ∧ z.length ≤ m) → ∃ ys : List Str, xs = ys.map V.str ∧ ∀ y ∈ ys, y.length ≤ m
  | [], _, _ => ⟨[], rfl, fun _ h => by cases h⟩
  | x :: r, m, h => by
    obtain ⟨ys, e, hy⟩ := strs_of r m fun i y e => h (i + 1) y e
    obtain ⟨z, rfl, hz⟩ := h 0 x rfl
    refine ⟨z :: ys, by rw [e]; rfl, fun y hm => ?_⟩
    rcases List.mem_cons.mp hm with rfl | hm
    · exact hz
    · exact hy y hm
def spLn : Sp := fun vs H Q _ => ∃ c : Int, vs = [.int c] ∧ ∀ z : Str, z.length ≤ 13 → RetV (.str z) H Q
def spPath (K : PySem.W.Frag) : Sp := fun vs H Q _ => ∃ (a : Addr) (ns : List Int), vs = [.ref a] ∧ SqL K H a (ns.map V.int) ∧ ∀ z : Str, z.length ≤ 250 → RetV (.str z) H Q
def bs16 : List Int := [7, 14, 10, 39, 39, 39, 39, 39, 39, 39, 39, 39, 39, 39, 39, 39]
def oddL : List Str := ["", ".", "..", "...", "a..b", "A", "a b", "a@b", "-", "abcdefghijkl"]
theorem odd_len : ∀ z ∈ oddL, z.length ≤ 13 := by decide +kernel
theorem al_n : AL.length = 39 := by decide +kernel
theorem digs_at {bs ds : List Int} (h : Digs bs ds) {k : Nat} {b : Int} (hk : bs[k]? = some b) : ∃ d : Nat, ds[k]? = some (d : Int) ∧ (d : Int) < b := by
  have hl : k < ds.length := by
    rw [h.1]
    exact (List.getElem?_eq_some_iff.mp hk).1
  have e := List.getElem?_eq_getElem hl
  obtain ⟨h0, h1⟩ := h.2 k _ b e hk
  obtain ⟨d, hd⟩ := Int.eq_ofNat_of_zero_le h0
  exact ⟨d, by rw [e, hd], by rw [hd] at h1; exact h1⟩
theorem digs_v {ds : List Int} {k : Nat} {d : Int} (h : ds[k]? = some d) : atI (ds.map V.int) (k : Int) = some (.int d) := atI_nat (by rw [List.getElem?_map, h]; rfl)
section
variable {P : Program} {w : World} {K : PySem.W.Frag} {mg : Str → Option Value} {base : Heap} {tA tB tL tM : Tok}
theorem ev_join {σ : L2.St} {H : Hp} {to te : TE} {a : Str} {ys : List Str} (h : Ev to σ H (.str a)) (hb : EvL te σ H (ys.map V.str)) (hz : (ys.map (·.length)).sum + ys.length * a.length ≤ 16777216) : Ev (tM1 (fun x xs H Q => ∃ a p, ∃ ys : List Str, x = .str a ∧ xs = [.ref p] ∧ (SqL K H p (ys.map V.str) ∨ SqT K H p (ys.map V.str)) ∧
      (ys.map (·.length)).sum + ys.length * a.length ≤ 16777216 ∧ Q (.str (Txt.join a ys)) H) to te) σ H (.str (Txt.join a ys)) := fun H1 e Q q =>
  h H1 e _ fun H2 e2 => ⟨⟨a, rfl⟩, hb H2 (e.trans e2) _ fun p H3 hp e3 h3 => ⟨a, p, ys, rfl, rfl, .inl (sq_of h3), hz, q H3 (e2.trans e3)⟩⟩
theorem ev_joinV {σ : L2.St} {H : Hp} {to te : TE} {a : Str} {ys : List Str} {p : Addr} (h : Ev to σ H (.str a)) (hb : Ev te σ H (.ref p)) (hp : SqL K H p (ys.map V.str)) (hz : (ys.map (·.length)).sum + ys.length * a.length ≤ 16777216) : Ev (tM1 (fun x xs H Q => ∃ a p, ∃ ys : List Str, x = .str a ∧ xs = [.ref p] ∧ (SqL K H p (ys.map V.str) ∨ SqT K H p (ys.map V.str)) ∧
      (ys.map (·.length)).sum + ys.length * a.length ≤ 16777216 ∧ Q (.str (Txt.join a ys)) H) to te) σ H (.str (Txt.join a ys)) := fun H1 e Q q =>
  h H1 e _ fun H2 e2 => ⟨⟨a, rfl⟩, hb H2 (e.trans e2) _ fun H3 e3 => ⟨a, p, ys, rfl, rfl, .inl (ex_l ((e.trans e2).trans e3) hp), hz, q H3 (e2.trans e3)⟩⟩
theorem el_is {te : TE} {σ : L2.St} {H : Hp} {xs ys : List V} (h : EvL te σ H xs) (e : xs = ys) : EvL te σ H ys := by
  rw [← e]
  exact h
theorem q_call2L {σ : L2.St} {H : Hp} {t1 te : TE} {v1 : V} {xs : List V} {sp : Sp} {E : XK} {D : Ends} {tz : TS} {i : Nat} (h1 : Ev t1 σ H v1) (h3 : EvL te σ H xs) (k : ∀ c H1, H c = none → Ex H H1 → H1 c = some (.lst xs) → sp [v1, .ref c] H1 (fun v H2 => tz D (σ.set i (some v)) H2) E) : tSeq (tAsg (tCall sp [] E (tCons t1 (tCons te tNil))) (gName i)) tz D σ H :=
  h1 H (Ex.refl _) _ fun H1 e1 => h3 H1 e1 _ fun c H3 hc e3 h3' => k c H3 (fresh_back e1 hc) (e1.trans e3) h3'
theorem q_asgR {σ : L2.St} {H : Hp} {te : TE} {R : LP.Rel} {D : Ends} {tz : TS} {i n : Nat} (h : LP.EvR te σ H n R) (k : ∀ L xs H2, H L = none → Ex H H2 → H2 L = some (.lst xs) → xs.length = n → (∀ i y, xs[i]? = some y → R i (xs.take i) y H2) → tz D (σ.set i (some (.ref L))) H2) : tSeq (tAsg te (gName i)) tz D σ H := h H (Ex.refl H) _ k
theorem ok_ln {f fD : Addr} {fd fdD : FuncData} (F : Fun K "_law_name" "_law_name" sLn f fd) (FD : Fun K "_law_digits" "_law_digits" sDg fD fdD) (bD : Binds K fdD ["cell", "bases"] []) (gD : mg "_law_digits" = some (.ref fD)) (T : Txt mg tA tB tL tM) : FnOk P w K mg base CX0 2 f fd ["cell"] spLn := by
  have GD : FnOk P w K mg base CX0 1 fD fdD ["cell", "bases"] (spDg K) := ok_dg FD T
  refine F.ok scLn (fun vs H Q E h => ?_) (fun cdv A outer s H vs Q E hr h => ?_)
  · obtain ⟨c, rfl, _⟩ := h
    rfl
  · obtain ⟨c, rfl, q⟩ := h
    refine ⟨_, (pss_cons (ps_set (i := 1) scLn.nd rfl (Or.inr rfl) pe_str)
      (pss_cons (ps_set (i := 2) scLn.nd rfl (Or.inl rfl) (pe_lst (pa_cons pe_str (pa_cons pe_str (pa_cons pe_str (pa_cons pe_str (pa_cons pe_str (pa_cons pe_str (pa_cons pe_str (pa_cons pe_str (pa_cons pe_str (pa_cons pe_str pa_nil))))))))))))
      (pss_cons (ps_set (i := 3) scLn.nd rfl (Or.inr rfl) (pe_call GD hr (by rfl) gD FD.kp bD .nil pass0 (pa_cons (pv 0) (pa_cons (pe_lst (pa_cons pe_int (pa_cons pe_int (pa_cons pe_int (pa_cons pe_int (pa_cons pe_int (pa_cons pe_int (pa_cons pe_int (pa_cons pe_int (pa_cons pe_int (pa_cons pe_int (pa_cons pe_int (pa_cons pe_int (pa_cons pe_int (pa_cons pe_int (pa_cons pe_int (pa_cons pe_int pa_nil))))))))))))))))) pa_nil))))
      (pss_cons (ps_if (pt_cmpR op_eq (pe_ix ix_list (pv 3) pe_int (fun _ _ => rfl)) pe_int (nomark _)) (pss_one (ps_ret (pe_ix ix_list (pv 2) (pe_ix ix_list (pv 3) pe_int (fun _ _ => rfl)) (fun _ _ => rfl)))) pss_nil)
      (pss_cons (ps_set (i := 4) scLn.nd rfl (Or.inl rfl) (pe_ix ix_list (pv 3) pe_int (fun _ _ => rfl)))
      (pss_cut (ps_if (pt_cmpR op_gt (pe_ix ix_list (pv 3) pe_int (fun _ _ => rfl)) pe_int (nomark _)) (pss_one (ps_set (i := 4) scLn.nd rfl (Or.inl rfl) (pe_op op_add pe_int (pe_op op_mod (pe_ix ix_list (pv 3) pe_int (fun _ _ => rfl)) pe_int)))) pss_nil)
      (pss_one (ps_ret (pe_join pe_str (pe_lc (own := [("k", 5)]) (g := gName 5) (tt := tYes) rfl scLn.nd (pi_range1 (by rfl) T.range (pa_cons (pv 4) pa_nil)) (blkOk_by (own := [("k", 5)]) (N := ["cell", "alphabet", "odd", "digits", "size", "k"]) (sc := defScope sLn) (by decide +kernel)) (fun _ _ _ _ _ => pg_name (i := 5) scLn.nd rfl (Or.inl rfl)) (fun _ _ _ _ _ => pts_nil) (fun _ _ _ _ _ => (pe_ix ix_str (pv 1) (pe_ix (r := rIxL K) ix_list (pv 3) (pe_op op_add pe_int (pv 5)) (fun _ _ => rfl)) (fun _ _ => rfl))))))))))))), ?_⟩
    refine q_asg ev_c fun H1 e1 => ?_
    refine q_asgL (xs := oddL.map V.str) (el_lst (ea_cons ev_c (ea_cons ev_c (ea_cons ev_c (ea_cons ev_c (ea_cons ev_c (ea_cons ev_c (ea_cons ev_c (ea_cons ev_c (ea_cons ev_c (ea_cons ev_c ea_nil)))))))))) (by decide)) fun ol H2 hol e2 h2 => ?_
    refine q_call2L (xs := bs16.map V.int) (ev_var rfl) (el_lst (ea_cons ev_c (ea_cons ev_c (ea_cons ev_c (ea_cons ev_c (ea_cons ev_c (ea_cons ev_c (ea_cons ev_c (ea_cons ev_c (ea_cons ev_c (ea_cons ev_c (ea_cons ev_c (ea_cons ev_c (ea_cons ev_c (ea_cons ev_c (ea_cons ev_c (ea_cons ev_c ea_nil)))))))))))))))) (by decide)) fun bl H3 hbl e3 h3 => ⟨c, bl, bs16, rfl, sq_of h3, by decide, by decide, fun dl H4 ds hdl e4 h4 hD => ?_⟩
    have e04 := ((e1.trans e2).trans e3).trans e4
    have ho : H4 ol = some (.lst (oddL.map V.str)) := (e3.trans e4) _ _ h2
    obtain ⟨d0, g0, l0⟩ := digs_at hD (k := 0) (b := 7) rfl
    obtain ⟨d1, g1, l1⟩ := digs_at hD (k := 1) (b := 14) rfl
    obtain ⟨d2, g2, l2⟩ := digs_at hD (k := 2) (b := 10) rfl
    refine q_when (et_test (ev_op (ev_op (ev_var rfl) ev_c (rv_ixL (sq_of h4) (digs_v g0))) ev_c (rv_eq rfl))) (fun _ H5 e5 => ?_) (fun _ H5 e5 => ?_)
    · have hd2 : d2 < oddL.length := by
        show d2 < 10
        omega
      exact s_ret (ev_op (ev_var rfl) (ev_op (ev_var rfl) ev_c (rv_ixL (sq_of (e5 _ _ h4)) (digs_v g2))) (rv_ixL (sq_of (e5 _ _ ho)) (atI_nat (v := .str oddL[d2]) (by rw [List.getElem?_map, List.getElem?_eq_getElem hd2]; rfl)))) fun H6 e6 => q _ (odd_len _ (List.getElem_mem hd2)) H6 ((e04.trans e5).trans e6)
    · refine q_asg (ev_op (ev_var rfl) ev_c (rv_ixL (sq_of (e5 _ _ h4)) (digs_v g1))) fun H6 e6 => ?_
      refine q_cut (M := fun σ2 H8 => ∃ n : Nat, σ2 = [some (.int c), some (.str alpha), some (.ref ol), some (.ref dl), some (.int (n : Int)), none] ∧ Ex H4 H8 ∧ n ≤ 13) ?_ ?_
      · refine s_when (et_test (ev_op (ev_op (ev_var rfl) ev_c (rv_ixL (sq_of ((e5.trans e6) _ _ h4)) (digs_v g0))) ev_c rv_I0)) (fun _ H8 e8 => ?_) (fun _ H8 e8 => ⟨d1, rfl, (e5.trans e6).trans e8, by omega⟩)
        exact s_asg (v := .int ((1 + d1 % 4 : Nat) : Int)) (ev_is (ev_op ev_c (ev_op (ev_op (ev_var rfl) ev_c (rv_ixL (sq_of (((e5.trans e6).trans e8) _ _ h4)) (digs_v g1))) ev_c (rv_I (by show (0 : Int) < 4; decide))) rv_I0) (congrArg V.int (by omega))) fun H9 e9 => ⟨_, rfl, ((e5.trans e6).trans e8).trans e9, by omega⟩
      · rintro σ2 H8 ⟨n, rfl, e8, hn⟩
        have hys : given ((n : Int)).toNat (fun _ => true) (fun k => V.str ⟨#[AL.getD (ds.getD (3 + k) 0).toNat 0]⟩) = (((List.range n).map fun k => (⟨#[AL.getD (ds.getD (3 + k) 0).toNat 0]⟩ : Str))).map V.str := by
          unfold given
          rw [Int.toNat_natCast, List.map_map, List.filter_eq_self.mpr fun _ _ => rfl]
          rfl
        have one : ∀ y ∈ ((List.range n).map fun k => (⟨#[AL.getD (ds.getD (3 + k) 0).toNat 0]⟩ : Str)), y.length = 1 := fun y hy => by
          obtain ⟨k, _, rfl⟩ := List.mem_map.mp hy
          rfl
        have lys : ((List.range n).map fun k => (⟨#[AL.getD (ds.getD (3 + k) 0).toNat 0]⟩ : Str)).length = n := by rw [List.length_map, List.length_range]
        have hjl := PySem.W.KT.join_ones _ one
        rw [lys] at hjl
        refine s_ret (ev_join ev_c (el_is (el_lcR1 (n := (n : Int)) (fun _ => true) (fun k => V.str ⟨#[AL.getD (ds.getD (3 + k) 0).toNat 0]⟩) (ea_cons (ev_var rfl) ea_nil) ⟨by omega, by omega⟩ (fun _ => rfl) (fun _ H1 _ _ => fun H2 _ Q q => q _ (Ex.refl _)) (fun k H9 e9 hk _ => ?_)) hys) (by
          rw [sum_ones _ one, lys]
          have z : (Str.ofString "").length = 0 := by decide
          show n + n * (Str.ofString "").length ≤ 16777216
          rw [z]
          omega)) fun H9 e9 => q _ (by
            show (Txt.join (Str.ofString "") _).length ≤ 13
            rw [hjl]
            exact hn) H9 ((e04.trans e8).trans e9)
        have hk' : k < 13 := by omega
        obtain ⟨d, gd, ld⟩ := digs_at hD (k := 3 + k) (b := 39) ((by decide : ∀ k : Fin 13, bs16[3 + k.val]? = some 39) ⟨k, hk'⟩)
        have gv : (ds.getD (3 + k) 0).toNat = d := by
          rw [List.getD_eq_getElem?_getD, gd]
          rfl
        have hd : d < AL.length := by rw [al_n]; omega
        have ga : AL[d]? = some (AL.getD d 0) := by
          rw [List.getD_eq_getElem?_getD, List.getElem?_eq_getElem hd]
          rfl
        rw [gv]
        exact ev_op (ev_var rfl) (ev_op (ev_var rfl) (ev_op ev_c (ev_var rfl) rv_I0) (rv_ixL (sq_of ((e8.trans e9) _ _ h4)) (by
          show atI (ds.map V.int) (3 + (k : Int)) = _
          rw [show (3 : Int) + (k : Int) = ((3 + k : Nat) : Int) by omega]
          exact digs_v gd))) (rv_ixS (w := alpha) (by decide +kernel) (atI_nat ga))
theorem ok_path {f fC fD fN : Addr} {fd fdC fdD fdN : FuncData} (F : Fun K "_law_path" "_law_path" sPath f fd) (FC : Fun K "_law_cell" "_law_cell" sCel fC fdC) (bC : Binds K fdC ["script", "k"] []) (gC : mg "_law_cell" = some (.ref fC)) (FD : Fun K "_law_digits" "_law_digits" sDg fD fdD) (bD : Binds K fdD ["cell", "bases"] []) (gD : mg "_law_digits" = some (.ref fD)) (FN : Fun K "_law_name" "_law_name" sLn fN fdN) (bN : Binds K fdN ["cell"] []) (gN : mg "_law_name" = some (.ref fN)) (T : Txt mg tA tB tL tM) : FnOk P w K mg base CX0 3 f fd ["script"] (spPath K) := by
  have GC : FnOk P w K mg base CX0 2 fC fdC ["script", "k"] (spCel K) := (ok_cell FC T).mono (by decide)
  have GD : FnOk P w K mg base CX0 2 fD fdD ["cell", "bases"] (spDg K) := (ok_dg FD T).mono (by decide)
  have GN : FnOk P w K mg base CX0 2 fN fdN ["cell"] spLn := ok_ln FN FD bD gD T
  refine F.ok scPath (fun vs H Q E h => ?_) (fun cdv A outer s H vs Q E hr h => ?_)
  · obtain ⟨a, ns, rfl, _⟩ := h
    rfl
  · obtain ⟨a, ns, rfl, hS, q⟩ := h
    refine ⟨_, (pss_cons (ps_set (i := 1) scPath.nd rfl (Or.inl rfl) (pe_call GD hr (by rfl) gD FD.kp bD .nil pass0 (pa_cons (pe_call GC hr (by rfl) gC FC.kp bC .nil pass0 (pa_cons (pv 0) (pa_cons pe_int pa_nil))) (pa_cons (pe_lst (pa_cons pe_int (pa_cons pe_int (pa_cons pe_int (pa_cons pe_int pa_nil))))) pa_nil))))
      (pss_cons (ps_set (i := 2) scPath.nd rfl (Or.inl rfl) (pe_call GN hr (by rfl) gN FN.kp bN .nil pass0 (pa_cons (pe_call GC hr (by rfl) gC FC.kp bC .nil pass0 (pa_cons (pv 0) (pa_cons pe_int pa_nil))) pa_nil)))
      (pss_cons (ps_set (i := 3) scPath.nd rfl (Or.inl rfl) (pe_lst (pa_cons pe_str (pa_cons pe_str (pa_cons pe_str (pa_cons pe_str (pa_cons pe_str (pa_cons pe_str (pa_cons (pe_op op_add_str pe_str (pv 2)) (pa_cons (pe_op op_add_str (pe_op op_add_str pe_str (pv 2)) pe_str) (pa_cons pe_str pa_nil)))))))))))
      (pss_cons (ps_set (i := 4) scPath.nd rfl (Or.inl rfl) (pe_ix ix_list (pv 1) pe_int (fun _ _ => rfl)))
      (pss_cut (ps_if (pt_cmpR op_gt (pe_ix ix_list (pv 1) pe_int (fun _ _ => rfl)) pe_int (nomark _)) (pss_one (ps_set (i := 4) scPath.nd rfl (Or.inl rfl) (pe_op op_mod (pe_ix ix_list (pv 1) pe_int (fun _ _ => rfl)) pe_int))) pss_nil)
      (pss_cons (ps_setLc (i := 5) (own := [("k", 7)]) (g := gName 7) (tt := tYes) rfl scPath.nd rfl rfl (sw_true rfl rfl rfl (by decide +kernel)) (pi_range1 (by rfl) T.range (pa_cons (pv 4) pa_nil)) (blkOk_by (own := [("k", 7)]) (N := ["script", "digits", "name", "starts", "count", "names", "path", "k"]) (sc := defScope sPath) (by decide +kernel)) (fun _ _ _ _ _ => pg_name (i := 7) scPath.nd rfl (Or.inl rfl)) (fun _ _ _ _ _ => pts_nil) (fun _ _ _ _ _ => (pe_call GN hr (by rfl) gN FN.kp bN .nil pass0 (pa_cons (pe_op op_add (pe_call GC hr (by rfl) gC FC.kp bC .nil pass0 (pa_cons (pv 0) (pa_cons (pe_op op_add pe_int (pv 7)) pa_nil))) (pe_op op_mul pe_int (pv 7))) pa_nil))))
      (pss_cons (ps_set (i := 6) scPath.nd rfl (Or.inl rfl) (pe_op op_add_str (pe_ix ix_list (pv 3) (pe_ix ix_list (pv 1) pe_int (fun _ _ => rfl)) (fun _ _ => rfl)) (pe_join pe_str (pv 5))))
      (pss_cut (ps_if (pt_cmpR op_eq (pe_ix ix_list (pv 1) pe_int (fun _ _ => rfl)) pe_int (nomark _)) (pss_one (ps_set (i := 6) scPath.nd rfl (Or.inl rfl) (pe_op op_add_str (pv 6) pe_str))) pss_nil)
      (pss_one (ps_ret (pv 6))))))))))), ?_⟩
    have cc : ∀ {H1 : Hp} {z : Int} {σ : L2.St} {tk : TE} (j : Nat), Ex H H1 → z = (j : Int) → σ[0]? = some (some (.ref a)) → Ev tk σ H1 (.int z) → Ev (tCall (spCel K) [] E0 (tCons (tVar 0) (tCons tk tNil))) σ H1 (.int (cellv ns j)) :=
      fun j e ez h0 hk => ev_call (ea_cons (ev_var h0) (ea_cons hk ea_nil)) (sv_cell (ex_l e hS) ez)
    refine q_call2L (xs := ([9, 11, 6, 4] : List Int).map V.int) (cc 0 (Ex.refl _) rfl rfl ev_c) (el_lst (ea_cons ev_c (ea_cons ev_c (ea_cons ev_c (ea_cons ev_c ea_nil)))) (by decide)) fun bl H3 hbl e3 h3 => ⟨_, bl, [9, 11, 6, 4], rfl, sq_of h3, by decide, by decide, fun dl H4 ds hdl e4 h4 hD => ?_⟩
    have e04 := e3.trans e4
    obtain ⟨d0, g0, l0⟩ := digs_at hD (k := 0) (b := 9) rfl
    obtain ⟨d1, g1, l1⟩ := digs_at hD (k := 1) (b := 11) rfl
    obtain ⟨d2, g2, l2⟩ := digs_at hD (k := 2) (b := 6) rfl
    obtain ⟨d3, g3, l3⟩ := digs_at hD (k := 3) (b := 4) rfl
    refine q_call (ea_cons (cc 1 e04 rfl rfl ev_c) ea_nil) fun H5 e5 => ⟨_, rfl, fun nm hnm H6 e6 => ?_⟩
    have at1 : (Str.ofString "@").length = 1 := by decide
    have at2 : (Str.ofString "/").length = 1 := by decide
    have big : 300 ≤ sizeLine := by decide
    have l7 : (Str.ofString "@" ++ nm).length = 1 + nm.length := by
      rw [str_len, app_list, List.length_append, ← str_len, ← str_len, at1]
    refine q_asgL (xs := ([Str.ofString "", Str.ofString "/", Str.ofString "", Str.ofString "/", Str.ofString "//", Str.ofString "@", Str.ofString "@" ++ nm, Str.ofString "@" ++ nm ++ Str.ofString "/", Str.ofString "@.."] : List Str).map V.str) (el_lst (ea_cons ev_c (ea_cons ev_c (ea_cons ev_c (ea_cons ev_c (ea_cons ev_c (ea_cons ev_c (ea_cons (ev_op ev_c (ev_var rfl) (rv_addS (by omega))) (ea_cons (ev_op (ev_op ev_c (ev_var rfl) (rv_addS (by omega))) ev_c (rv_addS (by omega))) (ea_cons ev_c ea_nil))))))))) (by show 9 ≤ 100000; decide)) fun sl H7 hsl e7 h7 => ?_
    have hst : ∀ z ∈ ([Str.ofString "", Str.ofString "/", Str.ofString "", Str.ofString "/", Str.ofString "//", Str.ofString "@", Str.ofString "@" ++ nm, Str.ofString "@" ++ nm ++ Str.ofString "/", Str.ofString "@.."] : List Str), z.length ≤ 15 := fun z hz => by
      have l8 : (Str.ofString "@" ++ nm ++ Str.ofString "/").length = 2 + nm.length := by
        rw [str_len, app_list, List.length_append, ← str_len, ← str_len, l7, at2]
        omega
      simp only [List.mem_cons, List.not_mem_nil, or_false] at hz
      rcases hz with h | h | h | h | h | h | h | h | h <;> rw [h]
      · decide
      · decide
      · decide
      · decide
      · decide
      · decide
      · omega
      · omega
      · decide
    generalize hL : ([Str.ofString "", Str.ofString "/", Str.ofString "", Str.ofString "/", Str.ofString "//", Str.ofString "@", Str.ofString "@" ++ nm, Str.ofString "@" ++ nm ++ Str.ofString "/", Str.ofString "@.."] : List Str) = sL at hst h7
    have nL : sL.length = 9 := by rw [← hL]; rfl
    have h47 := (e5.trans e6).trans e7
    refine q_asg (ev_op (ev_var rfl) ev_c (rv_ixL (sq_of (h47 _ _ h4)) (digs_v g1))) fun H8 e8 => ?_
    refine q_cut (M := fun σ2 H9 => ∃ n : Nat, σ2 = [some (.ref a), some (.ref dl), some (.str nm), some (.ref sl), some (.int (n : Int)), none, none, none] ∧ Ex H7 H9 ∧ n ≤ 10) ?_ ?_
    · refine s_when (et_test (ev_op (ev_op (ev_var rfl) ev_c (rv_ixL (sq_of ((h47.trans e8) _ _ h4)) (digs_v g3))) ev_c rv_I0)) (fun _ H9 e9 => ?_) (fun _ H9 e9 => ⟨d1, rfl, e8.trans e9, by omega⟩)
      exact s_asg (v := .int ((d1 % 4 : Nat) : Int)) (ev_is (ev_op (ev_op (ev_var rfl) ev_c (rv_ixL (sq_of (((h47.trans e8).trans e9) _ _ h4)) (digs_v g1))) ev_c (rv_I (by show (0 : Int) < 4; decide))) (congrArg V.int (by omega))) fun H10 e10 => ⟨_, rfl, (e8.trans e9).trans e10, by omega⟩
    · rintro σ2 H9 ⟨n, rfl, e9, hn⟩
      have e09 : Ex H H9 := (e04.trans h47).trans e9
      refine q_asgR (n := ((n : Int)).toNat) (R := fun _ _ y _ => ∃ z : Str, y = .str z ∧ z.length ≤ 13) (LP.er_R1 (ea_cons (ev_var rfl) ea_nil) ⟨by omega, by omega⟩ (fun _ => rfl) (fun _ _ _ _ _ _ h => h) (fun i Dd H10 hDd e10 hDn hi xs hxs hpre Q' q' => ?_)) fun L xs H10 hL0 e10 h10 hlen hrow => ?_
      · refine (show EvA _ _ _ [.int (cellv ns (2 + i) + 31 * (i : Int))] from ea_cons (ev_op (cc (2 + i) (e09.trans e10) (by show (2 : Int) + (i : Int) = ((2 + i : Nat) : Int); omega) rfl (ev_op ev_c (ev_var rfl) rv_I0)) (ev_op ev_c (ev_var rfl) (rv_I (.inl ⟨by decide, by decide⟩))) rv_I0) ea_nil) H10 (Ex.refl _) _ fun H11 e11 => ⟨_, rfl, fun z hz H12 e12 => q' _ H12 (e11.trans e12) ⟨z, rfl, hz⟩⟩
      · obtain ⟨ys, rfl, hys⟩ := strs_of xs 13 fun i y e => hrow i y e
        have lys : ys.length = n := by
          rw [List.length_map] at hlen
          rw [hlen]
          exact Int.toNat_natCast n
        have sy := sum_le ys hys
        rw [lys] at sy
        have jl := join_le (Str.ofString "/") ys
        rw [lys, at2] at jl
        have hd0 : d0 < sL.length := by omega
        have sd0 := hst _ (List.getElem_mem hd0)
        have h4x : H10 dl = some (.lst (ds.map V.int)) := ((h47.trans e9).trans e10) _ _ h4
        refine q_asg (v := .str (sL[d0] ++ Txt.join (Str.ofString "/") ys)) (ev_op (ev_op (ev_var rfl) (ev_op (ev_var rfl) ev_c (rv_ixL (sq_of h4x) (digs_v g0))) (rv_ixL (sq_of ((e9.trans e10) _ _ h7)) (atI_nat (v := .str sL[d0]) (by rw [List.getElem?_map, List.getElem?_eq_getElem hd0]; rfl)))) (ev_joinV ev_c (ev_var rfl) (sq_of h10) (by rw [lys, at2]; omega)) (rv_addS (by omega))) fun H11 e11 => ?_
        have lp : (sL[d0] ++ Txt.join (Str.ofString "/") ys).length ≤ 200 := by
          rw [str_len, app_list, List.length_append, ← str_len, ← str_len]
          omega
        generalize sL[d0] ++ Txt.join (Str.ofString "/") ys = pt at lp
        have e011 := (e09.trans e10).trans e11
        refine q_cut (M := fun σ2 H12 => ∃ z : Str, σ2 = [some (.ref a), some (.ref dl), some (.str nm), some (.ref sl), some (.int (n : Int)), some (.ref L), some (.str z), none] ∧ Ex H H12 ∧ z.length ≤ 250) ?_ ?_
        · refine s_when (et_test (ev_op (ev_op (ev_var rfl) ev_c (rv_ixL (sq_of (e11 _ _ h4x)) (digs_v g2))) ev_c (rv_eq rfl))) (fun _ H12 e12 => ?_) (fun _ H12 e12 => ⟨pt, rfl, e011.trans e12, by omega⟩)
          refine s_asg (ev_op (ev_var rfl) ev_c (rv_addS (by omega))) fun H13 e13 => ⟨pt ++ Str.ofString "/", rfl, (e011.trans e12).trans e13, ?_⟩
          rw [str_len, app_list, List.length_append, ← str_len, ← str_len, at2]
          omega
        · rintro σ2 H12 ⟨z, rfl, e12, hz⟩
          exact s_ret (ev_var rfl) fun H13 e13 => q z hz H13 (e12.trans e13)
end
end K37

set_option Elab.async false
set_option linter.all false
set_option maxRecDepth 100000
set_option maxHeartbeats 4000000
namespace K37
open PySem PySem.Spec PyProof.Rows L2 Evl LK LT LG LS LQ LX
theorem dig_none {l : List Nat} {k : Nat} (h : l.length ≤ k) : dig l k = 0 := by
  unfold dig
  rw [List.getElem?_eq_none h]
def slash : Str := Str.ofString "/"
def parts (z : Str) : List Str := Txt.split z slash
open Classical in
noncomputable def wdV (y : Str) : Int := if Nm y then W y.cps.toList else -1
open Classical in
noncomputable def nmsV (z : Str) : Option (List Int) := if (parts z).length ≤ 8 ∧ ∀ y ∈ parts z, Nm y then some ((parts z).map wdV) else none
theorem wd_yes {y : Str} (h : Nm y) : wdV y = W y.cps.toList := if_pos h
theorem wd_no {y : Str} (h : ¬ Nm y) : wdV y = -1 := if_neg h
theorem wd_nn {y : Str} (h : Nm y) : 0 ≤ wdV y := by
  rw [wd_yes h]
  exact (vl_bounds y.cps.toList 11 h.2.1 h.2.2.1).1
theorem nms_some {z : Str} (h1 : (parts z).length ≤ 8) (h2 : ∀ y ∈ parts z, Nm y) : nmsV z = some ((parts z).map wdV) := if_pos ⟨h1, h2⟩
theorem nms_long {z : Str} (h1 : ¬ (parts z).length ≤ 8) : nmsV z = none := if_neg fun h => h1 h.1
theorem nms_bad {z : Str} {y : Str} (hy : y ∈ parts z) (h : ¬ Nm y) : nmsV z = none := if_neg fun g => h (g.2 y hy)
theorem part_len {z y : Str} (h : y ∈ parts z) : y.length ≤ z.length := part_short h
theorem parts_len (z : Str) : (parts z).length ≤ z.length + 2 := split_le z slash
def spLw : Sp := fun vs H Q _ => ∃ z : Str, vs = [.str z] ∧ z.cps.toList.length ≤ 300 ∧ RetV (.int (wdV z)) H Q
def RetL (ws : List Int) (H : Hp) (Q : VK) : Prop := ∀ l H', H l = none → Ex H H' → H' l = some (.lst (ws.map V.int)) → Q (.ref l) H'
def spLns : Sp := fun vs H Q _ => ∃ z : Str, vs = [.str z] ∧ z.length ≤ 300 ∧ (∀ ws, nmsV z = some ws → RetL ws H Q) ∧ (nmsV z = none → RetV .non H Q)
def spNi (Pt CB : Addr) : Sp := fun vs H Q E => ∃ z : Str, vs = [.str z] ∧ z.length ≤ 300 ∧ Tab H Pt ∧ (∀ ws, nmsV z = some ws → RetL ws H Q) ∧ (nmsV z = none → ∀ H', Ex H H' → E (.ref CB) none H')
section
variable {P : Program} {w : World} {K : PySem.W.Frag} {mg : Str → Option Value} {base : Heap} {tA tB tL tM : Tok}
theorem el_split {σ : L2.St} {H : Hp} {to te : TE} {a b : Str} (h : Ev to σ H (.str a)) (hb : Ev te σ H (.str b)) (h1 : (b.length == 0) = false) (h2 : a.length + 2 ≤ sizeLine) : EvL (tM1 (fun x xs H Q => ∃ a b, x = .str a ∧ xs = [.str b] ∧ (b.length == 0) = false ∧ a.length + 2 ≤ sizeLine ∧ rNewStrs (Txt.split a b) H Q) to te) σ H ((Txt.split a b).map V.str) := fun H1 e Q q =>
  h H1 e _ fun H2 e2 => ⟨⟨a, rfl⟩, hb H2 (e.trans e2) _ fun H3 e3 => ⟨a, b, rfl, rfl, h1, h2, fun p hp => q p _ (fresh_back (e2.trans e3) hp) ((e2.trans e3).trans (Ex.new hp)) upd_same⟩⟩
/-- [name_word(name) for name in a new list of texts] -/
theorem lc_names {σ : L2.St} {H : Hp} {tl : TE} {j : Nat} {vs : List Nat} {ys : List Str} {E : XK} {Pt CB : Addr} (h : EvL tl σ H (ys.map V.str)) (hz : ys.length ≤ 1000) (hy : ∀ y ∈ ys, y.cps.toList.length ≤ 300) (hT : Tab H Pt) (hj : ∀ x, ((wipe σ vs).set j (some x))[j]? = some (some x)) (hw : ∀ x, wipe ((wipe σ vs).set j (some x)) vs = wipe σ vs)
    (bad : ∀ y ∈ ys, ¬ Nm y → ∀ H', Ex H H' → E (.ref CB) none H') : ∀ Q : VK, ((∀ y ∈ ys, Nm y) → RetL (ys.map wdV) H Q) →
    tLc (iList K tl) (gName j) tYes (tCall (spWord Pt CB) [] E (tCons (tVar j) tNil)) vs σ H Q := fun Q q => h H (Ex.refl H) _ fun a H1 ha e1 hx => ⟨a, rfl, ⟨_, sq_of hx⟩, fun Dl hD => by
  refine lc_list (xs := ys.map V.str) (fun i H' => Ex H1 H' ∧ H' Dl = some (.lst (((ys.take i).map wdV).map V.int)) ∧ ∀ y ∈ ys.take i, Nm y) ⟨Ex.new hD, upd_same, fun y h => by cases h⟩ (fun i H' _ p => sq_of (p.1 a _ hx)) (fun i x H' hi p => ?_) (fun H' p => ?_)
  · obtain ⟨p1, p2, p3⟩ := p
    rw [List.getElem?_map] at hi
    obtain ⟨y, hyi, rfl⟩ := Option.map_eq_some_iff.mp hi
    have hm := List.mem_of_getElem? hyi
    have hil := (List.getElem?_eq_some_iff.mp hyi).1
    refine ⟨hw _, ?_⟩
    show tCall (spWord Pt CB) [] E (tCons (tVar j) tNil) _ H' _
    refine (ea_cons (ev_var (hj _)) ea_nil : EvA _ _ H' [.str y]) H' (Ex.refl H') _ fun H2 e2 => ⟨y, rfl, hy y hm, hT.mono ((e1.trans p1).trans e2), fun hN H3 e3 => ?_, fun hN H3 e3 => bad y hm hN H3 (((e1.trans p1).trans e2).trans e3)⟩
    refine ⟨_, e3 _ _ (e2 _ _ p2), sz_lt (by rw [List.length_map, List.length_map, List.length_take]; omega), ((p1.trans e2).trans e3).mut hD, ?_, fun u hu => ?_⟩
    · rw [upd_same, List.take_add_one, hyi, Option.toList_some, List.map_append, List.map_append, ← wd_yes hN]
      rfl
    · rw [List.take_add_one, hyi] at hu
      rcases List.mem_append.mp hu with g | g
      · exact p3 u g
      · rw [List.mem_singleton.mp g]
        exact hN
  · obtain ⟨p1, p2, p3⟩ := p
    rw [List.length_map, List.take_length] at p2 p3
    exact q p3 Dl H' (fresh_back e1 hD) (e1.trans p1) p2⟩
theorem q_names {σ : L2.St} {H : Hp} {tl : TE} {j i : Nat} {vs : List Nat} {ys : List Str} {E : XK} {Pt CB : Addr} {D : Ends} {tz : TS} (h : EvL tl σ H (ys.map V.str)) (hz : ys.length ≤ 1000) (hy : ∀ y ∈ ys, y.cps.toList.length ≤ 300) (hT : Tab H Pt) (hj : ∀ x, ((wipe σ vs).set j (some x))[j]? = some (some x)) (hw : ∀ x, wipe ((wipe σ vs).set j (some x)) vs = wipe σ vs)
    (bad : ∀ y ∈ ys, ¬ Nm y → ∀ H', Ex H H' → E (.ref CB) none H') (k : (∀ y ∈ ys, Nm y) → ∀ l H', H l = none → Ex H H' → H' l = some (.lst ((ys.map wdV).map V.int)) → tz D (σ.set i (some (.ref l))) H') :
    tSeq (tAsg (tLc (iList K tl) (gName j) tYes (tCall (spWord Pt CB) [] E (tCons (tVar j) tNil)) vs) (gName i)) tz D σ H := lc_names h hz hy hT hj hw bad (fun v H1 => tz D (σ.set i (some v)) H1) k
theorem ok_ni {f fW Pt CB : Addr} {fd fdW : FuncData} (F : Fun K "names_in" "names_in" sNin f fd) (FW : Fun K "name_word" "name_word" sWord fW fdW) (GW : FnOk P w K mg base (L2.CX P w) 2 fW fdW ["name"] (spWord Pt CB)) (bW : Binds K fdW ["name"] []) (gW : mg "name_word" = some (.ref fW)) (T : Txt mg tA tB tL tM) (XB : Xc K mg "BadName" CB) : FnOk P w K mg base (L2.CX P w) 3 f fd ["text"] (spNi Pt CB) := by
  refine F.okX scNin (fun vs H Q E h => ?_) (fun cdv A outer s H vs Q E hr h => ?_)
  · obtain ⟨z, rfl, _⟩ := h
    rfl
  · obtain ⟨z, rfl, hl, hT, q, qE⟩ := h
    refine ⟨_, (pss_cons (LCX.ps_setLcX (i := 1) (E := E) (own := [("name", 2)]) (g := gName 2) rfl scNin.nd rfl rfl (takes_of rfl rfl rfl rfl) rfl rfl (sw_true rfl rfl rfl (by decide +kernel)) (pi_list (pe_split (pv 0) pe_str)) (blkOk_by (own := [("name", 2)]) (N := ["text", "names", "name"]) (sc := defScope sNin) (by decide +kernel)) (fun _ _ _ _ _ => pg_name (i := 2) scNin.nd rfl (Or.inl rfl)) (fun _ _ _ _ _ => (pe_call (E := E) GW hr (by rfl) gW FW.kp bW .nil LCX.pass_blk (pa_cons (pv 2) pa_nil))))
      (pss_cons (ps_if (pt_cmpR op_gt (pe_callB call_len_seq (by rfl) T.len (by decide +kernel) (pa_cons (pv 1) pa_nil)) (pe_glob (v := .int 8) rfl T.gMAX_NAMES ⟨_, rfl⟩) (nomark _)) (pss_one (ps_raise0 rfl XB (takes_of rfl rfl rfl rfl) (by rfl))) pss_nil)
      (pss_one (ps_ret (pv 1))))), ?_⟩
    have big : 1000 ≤ sizeLine := by decide
    refine q_names (ys := parts z) (el_split (ev_var rfl) ev_c (by decide) (by omega)) (by have := parts_len z; omega) (fun y hy => by rw [← str_len]; have := part_len hy; omega) hT (fun _ => rfl) (fun _ => rfl) (fun y hy hN H' e' => qE (nms_bad hy hN) H' e') fun hall l H1 hl0 e1 h1 => ?_
    refine q_when (et_test (ev_op (ev_len (ev_var rfl) (sq_of h1)) ev_c rv_I0)) (fun hb H2 e2 => ?_) (fun hb H2 e2 => ?_)
    · have := of_decide_eq_true hb
      rw [List.length_map, List.length_map] at this
      exact qE (nms_long (by omega)) H2 (e1.trans e2)
    · have := of_decide_eq_false hb
      rw [List.length_map, List.length_map] at this
      exact s_ret (ev_var rfl) fun H3 e3 => q _ (nms_some (by omega) hall) l H3 hl0 ((e1.trans e2).trans e3) (e3 _ _ (e2 _ _ h1))
end
end K37

set_option Elab.async false
set_option linter.all false
set_option maxRecDepth 100000
set_option maxHeartbeats 4000000
namespace K37
open PySem PySem.Spec PyProof.Rows L2 Evl LK LT LG LS LQ LX
theorem rv_isN {H : Hp} {x : V} : RV (fun x y H Q => y = .non ∧ Q (.bl (decide (x = .non))) H) x .non H (.bl (decide (x = .non))) := rv_val fun _ _ Q q => ⟨rfl, q⟩
section
variable {P : Program} {w : World} {K : PySem.W.Frag} {mg : Str → Option Value} {base : Heap} {tA tB tL tM : Tok}
theorem ok_lw {f : Addr} {fd : FuncData} (F : Fun K "_law_word" "_law_word" sLw f fd) (T : Txt mg tA tB tL tM) : FnOk P w K mg base CX0 1 f fd ["text"] spLw := by
  refine F.ok scLw (fun vs H Q E h => ?_) (fun cdv A outer s H vs Q E hr h => ?_)
  · obtain ⟨z, rfl, _⟩ := h
    rfl
  · obtain ⟨z, rfl, hl, q⟩ := h
    have hz : z.length = z.cps.toList.length := str_len z
    refine ⟨_, (pss_cons (ps_set (i := 1) scLw.nd rfl (Or.inl rfl) pe_str)
      (pss_cons (ps_if (PW.pt (pw_or (pt_cmpR op_eq (pe_callB call_len_str (by rfl) T.len (by decide +kernel) (pa_cons (pv 0) pa_nil)) pe_int (nomark _)) (pw_or (pt_cmpR op_gt (pe_callB call_len_str (by rfl) T.len (by decide +kernel) (pa_cons (pv 0) pa_nil)) pe_int (nomark _)) (pw_or1 (pt_cmpR op_eq (pv 0) (pe_op op_mul_str pe_str (pe_callB call_len_str (by rfl) T.len (by decide +kernel) (pa_cons (pv 0) pa_nil))) (nomark _)))))) (pss_one (ps_ret (pe_un un_neg pe_int))) pss_nil)
      (pss_cons (ps_set (i := 2) scLw.nd rfl (Or.inl rfl) pe_int)
      (pss_cons (ps_for PassesOwn.never rfl (pi_range1 (by rfl) T.range (pa_cons pe_int pa_nil)) (pg_name (i := 3) scLw.nd rfl (Or.inl rfl)) (pss_cons (ps_set (i := 4) scLw.nd rfl (Or.inl rfl) pe_int)
      (pss_cut (ps_if (pt_cmpR op_lt (pv 3) (pe_callB call_len_str (by rfl) T.len (by decide +kernel) (pa_cons (pv 0) pa_nil)) (nomark _)) (pss_cons (ps_set (i := 4) scLw.nd rfl (Or.inl rfl) (pe_op op_add pe_int (pe_m1 PySem.F.slot_str_find PySem.F.type_str_find mt_find (pv 1) (pe_ix ix_str (pv 0) (pv 3) (fun _ _ => rfl)))))
      (pss_one (ps_if (pt_cmpR op_eq (pv 4) pe_int (nomark _)) (pss_one (ps_ret (pe_un un_neg pe_int))) pss_nil))) pss_nil)
      (pss_one (ps_set (i := 2) scLw.nd rfl (Or.inl rfl) (pe_op op_add (pe_op op_mul (pv 2) pe_int) (pv 4)))))))
      (pss_one (ps_ret (pv 2))))))), ?_⟩
    refine q_asg ev_c fun H1 e1 => ?_
    have no : ∀ {H2 : Hp} {σ : L2.St} {D : Ends}, D.rt = Q → Ex H H2 → ¬ Nm z → tRet (tUn (rU fun i => .int (-i)) (tC (.int 1))) D σ H2 := fun hD e hN => s_ret (ev_un ev_c ru_neg) fun H3 e3 => by
      rw [wd_no hN] at q
      rw [hD]
      exact q H3 (e.trans e3)
    refine q_when (et_or (et_test (ev_op (ev_lenS (ev_var rfl) (small hl)) ev_c (rv_eq rfl))) (fun _ => et_or (et_test (ev_op (ev_lenS (ev_var rfl) (small hl)) ev_c rv_I0)) (fun _ => et_test (ev_op (ev_var rfl) (ev_op ev_c (ev_lenS (ev_var rfl) (small hl)) (rv_mulS (by decide +kernel) (by omega) (by omega))) (rv_eq rfl))))) (fun hb H2 e2 => ?_) (fun hb H2 e2 => ?_)
    · refine no rfl (e1.trans e2) fun hN => ?_
      obtain ⟨n1, n2, n3, c, hc, hne⟩ := hN
      rcases Bool.or_eq_true_iff.mp hb with h | h
      · have := V.int.inj (of_decide_eq_true h)
        omega
      · rcases Bool.or_eq_true_iff.mp h with h | h
        · have := of_decide_eq_true h
          omega
        · exact hne ((dots_iff z).mp (V.str.inj (of_decide_eq_true h)) c hc)
    · have hb2 := Bool.or_eq_false_iff.mp hb
      have hb3 := Bool.or_eq_false_iff.mp hb2.2
      have hb0 : ¬ (z.length : Int) = 0 := fun e => of_decide_eq_false hb2.1 (congrArg V.int e)
      have hb1 := of_decide_eq_false hb3.1
      have hbd : ¬ z = Txt.mul (Str.ofString ".") (z.length : Int) := fun e => of_decide_eq_false hb3.2 (congrArg V.str e)
      refine q_asg ev_c fun H3 e3 => ?_
      refine q_forR1 (n := 11) (ea_cons ev_c ea_nil) ⟨by decide, by decide⟩ (fun i σ' H' => ∃ y3 y4 : Option V, σ' = [some (.str z), some (.str alpha), some (.int (pw z.cps.toList i)), y3, y4] ∧ Ex H H' ∧ ∀ k c, k < i → z.cps.toList[k]? = some c → c ∈ AL) (fun H4 e4 => ⟨none, none, rfl, ((e1.trans e2).trans e3).trans e4, fun k c hk => absurd hk (Nat.not_lt_zero k)⟩) ?_ ?_
      · rintro i σ' H' hi ⟨y3, y4, rfl, e0, hA⟩
        refine q_asg ev_c fun H5 e5 => ?_
        refine q_cut (M := fun σ2 H2 => σ2 = [some (.str z), some (.str alpha), some (.int (pw z.cps.toList i)), some (.int (i : Int)), some (.int (dig z.cps.toList i : Int))] ∧ Ex H H2 ∧ ∀ c, z.cps.toList[i]? = some c → c ∈ AL) ?_ ?_
        · refine s_when (et_test (ev_op (ev_var rfl) (ev_lenS (ev_var rfl) (small hl)) rv_I0)) (fun hk H6 e6 => ?_) (fun hk H6 e6 => ?_)
          · have hk' : i < z.cps.toList.length := by
              have := of_decide_eq_true hk
              omega
            have gc := List.getElem?_eq_getElem hk'
            generalize z.cps.toList[i] = c at gc
            by_cases hc : c ∈ AL
            · have hd : dig z.cps.toList i = ix c + 1 := by
                unfold dig
                rw [gc]
              refine q_asg (v := .int (dig z.cps.toList i : Int)) (ev_is (ev_op ev_c (ev_is (ev_find (ev_var rfl) (ev_op (ev_var rfl) (ev_var rfl) (rv_ixS (by omega) (atI_nat gc)))) (congrArg V.int (al_find c hc))) rv_I0) (congrArg V.int (by rw [hd]; push_cast; omega))) fun H7 e7 => ?_
              refine s_when (b := false) (et_is (et_test (ev_op (ev_var rfl) ev_c (rv_eq rfl))) (decide_eq_false fun e => ?_)) (fun h => by cases h) (fun _ H8 e8 => ⟨rfl, (((e0.trans e5).trans e6).trans e7).trans e8, fun c' hc' => ?_⟩)
              · have e' := V.int.inj e
                omega
              · rw [gc] at hc'
                cases hc'
                exact hc
            · refine q_asg (v := .int 0) (ev_is (ev_op ev_c (ev_is (ev_find (ev_var rfl) (ev_op (ev_var rfl) (ev_var rfl) (rv_ixS (by omega) (atI_nat gc)))) (congrArg V.int (find_out hc))) rv_I0) rfl) fun H7 e7 => ?_
              exact s_when (b := true) (et_is (et_test (ev_op (ev_var rfl) ev_c (rv_eq rfl))) (decide_eq_true rfl)) (fun _ H8 e8 => no rfl ((((e0.trans e5).trans e6).trans e7).trans e8) fun hN => hc (hN.2.2.1 c (List.mem_of_getElem? gc))) (fun h => by cases h)
          · have hk' : z.cps.toList.length ≤ i := by
              have := of_decide_eq_false hk
              omega
            refine ⟨by rw [dig_none hk']; rfl, (e0.trans e5).trans e6, fun c hc => ?_⟩
            rw [List.getElem?_eq_none hk'] at hc
            cases hc
        · rintro σ2 H2 ⟨rfl, e6, hc⟩
          refine s_asg (v := .int (pw z.cps.toList (i + 1))) (ev_op (ev_op (ev_var rfl) ev_c (rv_I (.inr ⟨by decide, by decide⟩))) (ev_var rfl) rv_I0) fun H7 e7 => ⟨_, _, rfl, e6.trans e7, fun k c hk h => ?_⟩
          by_cases e : k = i
          · rw [e] at h
            exact hc c h
          · exact hA k c (by omega) h
      · rintro σ' H' ⟨y3, y4, rfl, e0, hA⟩
        have hAl : ∀ c ∈ z.cps.toList, c ∈ AL := fun c hc => by
          obtain ⟨k, hk⟩ := List.mem_iff_getElem?.mp hc
          have := (List.getElem?_eq_some_iff.mp hk).1
          exact hA k c (by show k < 11; omega) hk
        have hN : Nm z := dots_nm ⟨by omega, hAl⟩ (by omega) hbd
        rw [wd_yes hN] at q
        exact s_ret (ev_is (w := .int (W z.cps.toList)) (ev_var rfl) (congrArg V.int (pw_all (by omega)))) fun H6 e6 => q H6 (e0.trans e6)
theorem ok_lns {f fX : Addr} {fd fdX : FuncData} (F : Fun K "_law_names" "_law_names" sLns f fd) (FX : Fun K "_law_word" "_law_word" sLw fX fdX) (bX : Binds K fdX ["text"] []) (gX : mg "_law_word" = some (.ref fX)) (T : Txt mg tA tB tL tM) : FnOk P w K mg base CX0 2 f fd ["text"] spLns := by
  have GX : FnOk P w K mg base CX0 1 fX fdX ["text"] spLw := ok_lw FX T
  refine F.ok scLns (fun vs H Q E h => ?_) (fun cdv A outer s H vs Q E hr h => ?_)
  · obtain ⟨z, rfl, _⟩ := h
    rfl
  · obtain ⟨z, rfl, hl, q, qN⟩ := h
    refine ⟨_, (pss_cons (ps_set (i := 1) scLns.nd rfl (Or.inl rfl) (pe_split (pv 0) pe_str))
      (pss_cons (ps_setLc (i := 2) (own := [("part", 4)]) (g := gName 4) (tt := tYes) rfl scLns.nd rfl rfl (sw_true rfl rfl rfl (by decide +kernel)) (pi_list (pv 1)) (blkOk_by (own := [("part", 4)]) (N := ["text", "parts", "words", "word", "part"]) (sc := defScope sLns) (by decide +kernel)) (fun _ _ _ _ _ => pg_name (i := 4) scLns.nd rfl (Or.inl rfl)) (fun _ _ _ _ _ => pts_nil) (fun _ _ _ _ _ => (pe_call GX hr (by rfl) gX FX.kp bX .nil pass0 (pa_cons (pv 4) pa_nil))))
      (pss_cons (ps_if (pt_cmpR op_gt (pe_callB call_len_seq (by rfl) T.len (by decide +kernel) (pa_cons (pv 2) pa_nil)) pe_int (nomark _)) (pss_one (ps_ret pe_non)) pss_nil)
      (pss_cons (ps_for PassesOwn.never rfl (pi_list (pv 2)) (pg_name (i := 3) scLns.nd rfl (Or.inl rfl)) (pss_one (ps_if (pt_cmpR op_lt (pv 3) pe_int (nomark _)) (pss_one (ps_ret pe_non)) pss_nil)))
      (pss_one (ps_ret (pv 2))))))), ?_⟩
    have big : 1000 ≤ sizeLine := by decide
    have pl := parts_len z
    refine q_asgL (xs := (parts z).map V.str) (el_split (ev_var rfl) ev_c (by decide) (by omega)) fun pa H1 hpa e1 h1 => ?_
    have hys : given ((parts z).map V.str).length (fun _ => true) (fun i => V.int (wdV ((parts z).getD i slash))) = ((parts z).map wdV).map V.int := by
      unfold given
      rw [List.filter_eq_self.mpr fun _ _ => rfl, List.length_map, List.map_map]
      refine List.ext_getElem? fun i => ?_
      rw [List.getElem?_map, List.getElem?_map]
      by_cases hi : i < (parts z).length
      · rw [List.getElem?_eq_getElem (by rw [List.length_range]; exact hi), List.getElem?_eq_getElem hi, List.getElem_range]
        show some (V.int (wdV ((parts z).getD i slash))) = some (V.int (wdV (parts z)[i]))
        rw [List.getD_eq_getElem?_getD, List.getElem?_eq_getElem hi]
        rfl
      · rw [List.getElem?_eq_none (by rw [List.length_range]; omega), List.getElem?_eq_none (by omega)]
        rfl
    refine q_asgL (xs := ((parts z).map wdV).map V.int) (el_is (el_lcL (xs := (parts z).map V.str) (fun _ => true) (fun i => V.int (wdV ((parts z).getD i slash))) (ev_var rfl) (sq_of h1) (by rw [List.length_map]; omega) (fun _ => rfl) (fun _ _ H1 _ _ => fun H2 _ Q q => q _ (Ex.refl _)) (fun i x H2 e2 hx _ => ?_)) hys) fun wl H2 hwl e2 h2 => ?_
    · rw [List.getElem?_map] at hx
      obtain ⟨y, hyi, rfl⟩ := Option.map_eq_some_iff.mp hx
      have eg : (parts z).getD i slash = y := by
        rw [List.getD_eq_getElem?_getD, hyi]
        rfl
      rw [eg]
      have := part_len (List.mem_of_getElem? hyi)
      exact ev_call (vs := [.str y]) (ea_cons (ev_var rfl) ea_nil) (fun H1 e1 Q' q' E' => ⟨y, rfl, by rw [← str_len]; omega, q'⟩)
    · refine q_when (et_test (ev_op (ev_len (ev_var rfl) (sq_of h2)) ev_c rv_I0)) (fun hb H3 e3 => ?_) (fun hb H3 e3 => ?_)
      · have := of_decide_eq_true hb
        rw [List.length_map, List.length_map] at this
        exact s_ret ev_c fun H4 e4 => qN (nms_long (by omega)) H4 (((e1.trans e2).trans e3).trans e4)
      · have := of_decide_eq_false hb
        rw [List.length_map, List.length_map] at this
        refine q_forLn (ev_var rfl) (sq_of (e3 _ _ h2)) (fun i σ' H' => ∃ y3 : Option V, σ' = [some (.str z), some (.ref pa), some (.ref wl), y3, none] ∧ Ex H H' ∧ H' wl = some (.lst (((parts z).map wdV).map V.int)) ∧ ∀ k y, k < i → (parts z)[k]? = some y → Nm y)
          (fun H4 e4 => ⟨none, rfl, ((e1.trans e2).trans e3).trans e4, e4 _ _ (e3 _ _ h2), fun k y hk => absurd hk (Nat.not_lt_zero k)⟩) (fun i σ' H' _ ⟨_, _, _, p, _⟩ => sq_of p) ?_ ?_
        · rintro i x σ' H' hx ⟨y3, rfl, e0, p, hN⟩
          rw [List.getElem?_map, List.getElem?_map] at hx
          obtain ⟨v, hv, rfl⟩ := Option.map_eq_some_iff.mp hx
          obtain ⟨y, hyi, rfl⟩ := Option.map_eq_some_iff.mp hv
          refine s_when (et_test (ev_op (ev_var rfl) ev_c rv_I0)) (fun hb H5 e5 => ?_) (fun hb H5 e5 => ⟨_, rfl, e0.trans e5, e5 _ _ p, fun k u hk hu => ?_⟩)
          · have h0 := of_decide_eq_true hb
            exact s_ret ev_c fun H6 e6 => qN (nms_bad (List.mem_of_getElem? hyi) fun hn => by
              have := wd_nn hn
              omega) H6 ((e0.trans e5).trans e6)
          · have h0 := of_decide_eq_false hb
            by_cases ek : k = i
            · subst ek
              rw [hyi] at hu
              cases hu
              refine Classical.byContradiction fun hn => ?_
              rw [wd_no hn] at h0
              omega
            · exact hN k u (by omega) hu
        · rintro σ' H' ⟨y3, rfl, e0, p, hN⟩
          rw [List.length_map, List.length_map] at hN
          exact s_ret (ev_var rfl) fun H5 e5 => q _ (nms_some (by omega) fun y hy => by
            obtain ⟨k, hk⟩ := List.mem_iff_getElem?.mp hy
            exact hN k y (List.getElem?_eq_some_iff.mp hk).1 hk) wl H5 (fresh_back e1 hwl) (e0.trans e5) (e5 _ _ p)
end
end K37

set_option Elab.async false
set_option linter.all false
set_option maxRecDepth 100000
set_option maxHeartbeats 4000000
namespace K37
open PySem PySem.Spec PyProof.Rows L2 Evl LK LT LG LS LQ LX
theorem at_e : Str.ofString "@" = ⟨#[64]⟩ := by decide +kernel
theorem sl_e : Str.ofString "/" = ⟨#[47]⟩ := by decide +kernel
theorem sw_one (x : Str) (c : Nat) : Txt.startswith x ⟨#[c]⟩ = decide (x.cps.toList[0]? = some c) := by
  unfold Txt.startswith
  rw [Bool.eq_iff_iff, Bool.and_eq_true, decide_eq_true_iff, decide_eq_true_iff]
  exact PySem.StrLaws.subAt_one x c 0
theorem find_at {x : Str} {c : Nat} {p q : List Nat} (h : x.cps.toList = p ++ c :: q) (hp : c ∉ p) : Txt.find x ⟨#[c]⟩ = (p.length : Int) := by
  unfold Txt.find
  have at0 : x.cps.toList[p.length]? = some c := by rw [h, List.getElem?_append_right (Nat.le_refl _), Nat.sub_self]; rfl
  rcases PySem.StrLaws.occ_head x ⟨#[c]⟩ 1 (Nat.le_refl 1) with ⟨h0, hn⟩ | ⟨i, r, h0, hi, hn⟩
  · exact absurd ((PySem.StrLaws.subAt_one x c _).mpr at0) (hn _)
  · rw [h0]
    have ei := (PySem.StrLaws.subAt_one x c i).mp hi
    have h1 : ¬ p.length < i := fun hlt => hn _ hlt ((PySem.StrLaws.subAt_one x c _).mpr at0)
    by_cases h2 : i < p.length
    · rw [h, List.getElem?_append_left h2] at ei
      exact absurd (List.mem_of_getElem? ei) hp
    · have : i = p.length := by omega
      rw [this]
theorem find_no {x : Str} {c : Nat} (h : c ∉ x.cps.toList) : Txt.find x ⟨#[c]⟩ = -1 := by
  unfold Txt.find
  rcases PySem.StrLaws.occ_head x ⟨#[c]⟩ 1 (Nat.le_refl 1) with ⟨h0, hn⟩ | ⟨i, r, h0, hi, hn⟩
  · rw [h0]
  · exact absurd (List.mem_of_getElem? ((PySem.StrLaws.subAt_one x c i).mp hi)) h
theorem cut_fromS (z : Str) (k : Nat) : (cutS z (some (k : Int)) none).cps.toList = z.cps.toList.drop k := by
  unfold cutS
  rw [HT.sIx_nat, HT.sIx_none, str_len]
  show (z.cps.toList.drop (min k z.cps.toList.length)).take _ = _
  rw [List.take_of_length_le (by rw [List.length_drop]; omega)]
  by_cases h : k ≤ z.cps.toList.length
  · rw [Nat.min_eq_left h]
  · rw [Nat.min_eq_right (by omega), List.drop_eq_nil_of_le (Nat.le_refl _), List.drop_eq_nil_of_le (by omega)]
theorem cut_midS (z : Str) (k m : Nat) (h1 : k ≤ m) (h2 : m ≤ z.cps.toList.length) : (cutS z (some (k : Int)) (some (m : Int))).cps.toList = (z.cps.toList.drop k).take (m - k) := by
  unfold cutS
  rw [HT.sIx_nat, HT.sIx_nat, str_len, Nat.min_eq_left h2, Nat.min_eq_left (Nat.le_trans h1 h2)]
theorem cut1_len (z : Str) : (cutS z (some 1) none).length ≤ z.length := by
  rw [str_len, cut_tail, List.length_drop, ← str_len]
  omega
/-- what the document says of a text: its volume, whether it begins with a volume or "/", its names; or it is no path -/
abbrev Pv := Str × Bool × List Int
open Classical in
def Due (z : Str) (o : Option Pv) : Prop :=
  (z = Str.ofString "" ∧ o = some (Str.ofString "", false, [])) ∨ (z = slash ∧ o = some (Str.ofString "", true, [])) ∨
  (z ≠ Str.ofString "" ∧ z ≠ slash ∧ ∃ c r, z.cps.toList = c :: r ∧
    ((c = 64 ∧ 47 ∉ r ∧ ∃ v : Str, v.cps.toList = r ∧ o = if Nm v then some (v, true, []) else none) ∨
     (c = 64 ∧ ∃ (p q : List Nat) (v u : Str), r = p ++ 47 :: q ∧ 47 ∉ p ∧ v.cps.toList = p ∧ u.cps.toList = q ∧ o = if Nm v then (nmsV u).map fun ws => (v, true, ws) else none) ∨
     (c = 47 ∧ ∃ u : Str, u.cps.toList = r ∧ o = (nmsV u).map fun ws => (Str.ofString "", true, ws)) ∨
     (c ≠ 64 ∧ c ≠ 47 ∧ o = (nmsV z).map fun ws => (Str.ofString "", false, ws))))
theorem first_at {c : Nat} : ∀ {l : List Nat}, c ∈ l → ∃ p q, l = p ++ c :: q ∧ c ∉ p
  | [], h => by cases h
  | d :: r, h => by
    by_cases e : d = c
    · exact ⟨[], r, by rw [e]; rfl, fun h => by cases h⟩
    · rcases List.mem_cons.mp h with g | g
      · exact absurd g.symm e
      · obtain ⟨p, q, h1, h2⟩ := first_at g
        refine ⟨d :: p, q, by rw [h1]; rfl, fun hm => ?_⟩
        rcases List.mem_cons.mp hm with k | k
        · exact e k.symm
        · exact h2 k
theorem due_ex (z : Str) : ∃ o, Due z o := by
  by_cases h1 : z = Str.ofString ""
  · exact ⟨_, .inl ⟨h1, rfl⟩⟩
  by_cases h2 : z = slash
  · exact ⟨_, .inr (.inl ⟨h2, rfl⟩)⟩
  cases hz : z.cps.toList with
  | nil => exact absurd (str_ext (y := z) (z := Str.ofString "") (by rw [hz]; rfl)) h1
  | cons c r =>
    by_cases c1 : c = 64
    · by_cases h : 47 ∈ r
      · obtain ⟨p, q, e, hp⟩ := first_at h
        exact ⟨_, .inr (.inr ⟨h1, h2, c, r, hz, .inr (.inl ⟨c1, p, q, ⟨p.toArray⟩, ⟨q.toArray⟩, e, hp, rfl, rfl, rfl⟩)⟩)⟩
      · exact ⟨_, .inr (.inr ⟨h1, h2, c, r, hz, .inl ⟨c1, h, ⟨r.toArray⟩, rfl, rfl⟩⟩)⟩
    · by_cases c2 : c = 47
      · exact ⟨_, .inr (.inr ⟨h1, h2, c, r, hz, .inr (.inr (.inl ⟨c2, ⟨r.toArray⟩, rfl, rfl⟩))⟩)⟩
      · exact ⟨_, .inr (.inr ⟨h1, h2, c, r, hz, .inr (.inr (.inr ⟨c1, c2, rfl⟩))⟩)⟩
def RetP (x : Pv) (H : Hp) (Q : VK) : Prop := ∀ p l H', H p = none → Ex H H' → H' p = some (.tup [.str x.1, .bl x.2.1, .ref l]) → H' l = some (.lst (x.2.2.map V.int)) → Q (.ref p) H'
def spSp (Pt CB : Addr) : Sp := fun vs H Q E => ∃ (z : Str) (o : Option Pv), vs = [.str z] ∧ z.length ≤ 250 ∧ Tab H Pt ∧ Due z o ∧ (∀ x, o = some x → RetP x H Q) ∧ (o = none → ∀ H', Ex H H' → E (.ref CB) none H')
def spDue : Sp := fun vs H Q _ => ∃ (z : Str) (o : Option Pv), vs = [.str z] ∧ z.length ≤ 250 ∧ Due z o ∧ (∀ x, o = some x → RetP x H Q) ∧ (o = none → RetV .non H Q)
section
variable {K : PySem.W.Frag} {σ : L2.St} {H : Hp} {to te t1 t2 t3 ta tb : TE} {a b : Str} {v1 v2 v3 : V} {xs : List V} {D : Ends} {tz : TS} {t : TT}
theorem ev_sw (h : Ev to σ H (.str a)) (hb : Ev te σ H (.str b)) : Ev (tM1 (fun x xs H Q => ∃ a b, x = .str a ∧ xs = [.str b] ∧ Q (.bl (Txt.startswith a b)) H) to te) σ H (.bl (Txt.startswith a b)) := fun H1 e Q q =>
  h H1 e _ fun H2 e2 => ⟨⟨a, rfl⟩, hb H2 (e.trans e2) _ fun H3 e3 => ⟨a, b, rfl, rfl, q H3 (e2.trans e3)⟩⟩
theorem eu_part (h : Ev to σ H (.str a)) (hb : Ev te σ H (.str b)) (h1 : (b.length == 0) = false) (h2 : a.length ≤ sizeLine) : EvU (tM1 (fun x xs H Q => ∃ a b, x = .str a ∧ xs = [.str b] ∧ (b.length == 0) = false ∧ a.length ≤ sizeLine ∧ ∀ p, H p = none → Q (.ref p) (upd H p (.tup [.str (Txt.partition a b).1, .str (Txt.partition a b).2.1, .str (Txt.partition a b).2.2]))) to te) σ H [.str (Txt.partition a b).1, .str (Txt.partition a b).2.1, .str (Txt.partition a b).2.2] := fun H1 e Q q =>
  h H1 e _ fun H2 e2 => ⟨⟨a, rfl⟩, hb H2 (e.trans e2) _ fun H3 e3 => ⟨a, b, rfl, rfl, h1, h2, fun p hp => q p _ (fresh_back (e2.trans e3) hp) ((e2.trans e3).trans (Ex.new hp)) upd_same⟩⟩
theorem q_unp3 {i j k : Nat} (h : EvU te σ H [v1, v2, v3]) (c : ∀ H1, Ex H H1 → tz D (((σ.set i (some v1)).set j (some v2)).set k (some v3)) H1) : tSeq (tAsg te (gTup K 3 (gCons (gName i) (gCons (gName j) (gCons (gName k) gNil))))) tz D σ H :=
  h H (Ex.refl H) _ fun p H1 hp e1 h1 => ⟨p, [v1, v2, v3], rfl, st_of h1, rfl, _, [_, _], rfl, _, [_], rfl, _, [], rfl, rfl, c H1 e1⟩
theorem q_part {i j k : Nat} {w1 w2 w3 : Str} (h : Ev to σ H (.str a)) (hb : Ev te σ H (.str b)) (h1 : (b.length == 0) = false) (h2 : a.length ≤ sizeLine) (hp : Txt.partition a b = (w1, w2, w3)) (c : ∀ H1, Ex H H1 → tz D (((σ.set i (some (.str w1))).set j (some (.str w2))).set k (some (.str w3))) H1) :
    tSeq (tAsg (tM1 (fun x xs H Q => ∃ a b, x = .str a ∧ xs = [.str b] ∧ (b.length == 0) = false ∧ a.length ≤ sizeLine ∧ ∀ p, H p = none → Q (.ref p) (upd H p (.tup [.str (Txt.partition a b).1, .str (Txt.partition a b).2.1, .str (Txt.partition a b).2.2]))) to te) (gTup K 3 (gCons (gName i) (gCons (gName j) (gCons (gName k) gNil))))) tz D σ H := by
  have e := eu_part h hb h1 h2
  rw [hp] at e
  exact q_unp3 e c
theorem q_drop {sp : Sp} {dvs vs : List V} {E : XK} {tr : TA} (h : EvA tr σ H vs) (k : ∀ H1, Ex H H1 → sp (vs ++ dvs) H1 (fun _ H2 => tz D σ H2) E) : tSeq (tDrop (tCall sp dvs E tr)) tz D σ H := h H (Ex.refl H) _ k
theorem el_if {b : Bool} (h : EvT t σ H b) (h1 : b = true → EvL ta σ H xs) (h2 : b = false → EvL tb σ H xs) : EvL (tIf t ta tb) σ H xs := fun H1 e Q q => h H1 e _ fun H2 e2 => by
  cases b with
  | true => exact h1 rfl H2 (e.trans e2) Q fun p H3 hp e3 h3 => q p H3 (fresh_back e2 hp) (e2.trans e3) h3
  | false => exact h2 rfl H2 (e.trans e2) Q fun p H3 hp e3 h3 => q p H3 (fresh_back e2 hp) (e2.trans e3) h3
/-- it raises -/
def Rs (te : TE) (σ : L2.St) (H : Hp) : Prop := ∀ H1, Ex H H1 → ∀ Q : VK, te σ H1 Q
theorem rs_if (h : EvT t σ H true) (h1 : Rs ta σ H) : Rs (tIf t ta tb) σ H := fun H1 e Q => h H1 e _ fun H2 e2 => h1 H2 (e.trans e2) Q
theorem s_ret3 (h1 : Ev t1 σ H v1) (h2 : Ev t2 σ H v2) (h3 : EvL t3 σ H xs) (k : ∀ p l H1, H p = none → Ex H H1 → H1 p = some (.tup [v1, v2, .ref l]) → H1 l = some (.lst xs) → D.rt (.ref p) H1) : tRet (tTup (tCons t1 (tCons t2 (tCons t3 tNil)))) D σ H :=
  h1 H (Ex.refl _) _ fun H1 e1 => h2 H1 e1 _ fun H2 e2 => h3 H2 (e1.trans e2) _ fun l H3 hl e3 g3 => ⟨by show 3 ≤ sizeLine; decide, fun p hp => k p l _ (fresh_back ((e1.trans e2).trans e3) hp) (((e1.trans e2).trans e3).trans (Ex.new hp)) upd_same ((Ex.new hp) _ _ g3)⟩
theorem s_ret3R (h1 : Ev t1 σ H v1) (h2 : Ev t2 σ H v2) (h3 : Rs t3 σ H) : tRet (tTup (tCons t1 (tCons t2 (tCons t3 tNil)))) D σ H :=
  h1 H (Ex.refl _) _ fun H1 e1 => h2 H1 e1 _ fun H2 e2 => h3 H2 (e1.trans e2) _
theorem ev_inU {neg : Bool} {x : V} (h : Ev ta σ H x) (hu : EvU tb σ H xs) (hx : flatV x = true) (ha : xs.all flatV = true) : Ev (tOp (rIn K neg) ta tb) σ H (.bl (if neg then !inV x xs else inV x xs)) := fun H1 e Q q =>
  h H1 e _ fun H2 e2 => hu H2 (e.trans e2) _ fun p H3 hp e3 h3 => ⟨p, xs, rfl, .inr (st_of h3), hx, ha, q H3 (e2.trans e3)⟩
theorem el_ni {z : Str} {Pt CB : Addr} {E : XK} {ws : List Int} (h : Ev ta σ H (.str z)) (hl : z.length ≤ 300) (hT : Tab H Pt) (hw : nmsV z = some ws) : EvL (tCall (spNi Pt CB) [] E (tCons ta tNil)) σ H (ws.map V.int) := fun H1 e Q q =>
  (ea_cons h ea_nil) H1 e _ fun H2 e2 => ⟨z, rfl, hl, hT.mono (e.trans e2), (fun ws' e' l H3 hl3 e3 h3 => by
    rw [hw] at e'
    cases e'
    exact q l H3 (fresh_back e2 hl3) (e2.trans e3) h3), (fun hn => by rw [hw] at hn; cases hn)⟩
theorem rs_ni {z : Str} {Pt CB : Addr} {E : XK} (h : Ev ta σ H (.str z)) (hl : z.length ≤ 300) (hT : Tab H Pt) (hw : nmsV z = none) (hE : ∀ H', Ex H H' → E (.ref CB) none H') : Rs (tCall (spNi Pt CB) [] E (tCons ta tNil)) σ H := fun H1 e Q =>
  (ea_cons h ea_nil) H1 e _ fun H2 e2 => ⟨z, rfl, hl, hT.mono (e.trans e2), (fun ws' e' => by rw [hw] at e'; cases e'), fun _ H3 e3 => hE H3 ((e.trans e2).trans e3)⟩
end
section
variable {P : Program} {w : World} {K : PySem.W.Frag} {mg : Str → Option Value} {base : Heap} {tA tB tL tM : Tok}
theorem ok_sp {f fW fNi Pt CB : Addr} {fd fdW fdNi : FuncData} (F : Fun K "split_path" "split_path" sSp f fd) (FW : Fun K "name_word" "name_word" sWord fW fdW) (GW0 : FnOk P w K mg base (L2.CX P w) 2 fW fdW ["name"] (spWord Pt CB)) (bW : Binds K fdW ["name"] []) (gW : mg "name_word" = some (.ref fW)) (FNi : Fun K "names_in" "names_in" sNin fNi fdNi) (GNi : FnOk P w K mg base (L2.CX P w) 3 fNi fdNi ["text"] (spNi Pt CB)) (bNi : Binds K fdNi ["text"] []) (gNi : mg "names_in" = some (.ref fNi)) (T : Txt mg tA tB tL tM) : FnOk P w K mg base (L2.CX P w) 4 f fd ["path"] (spSp Pt CB) := by
  have GW : FnOk P w K mg base (L2.CX P w) 3 fW fdW ["name"] (spWord Pt CB) := GW0.mono (by decide)
  refine F.okX scSp (fun vs H Q E h => ?_) (fun cdv A outer s H vs Q E hr h => ?_)
  · obtain ⟨z, o, rfl, _⟩ := h
    rfl
  · obtain ⟨z, o, rfl, hl, hT, hD, q, qE⟩ := h
    refine ⟨_, (pss_cons (ps_if (pt_val (pe_m1 PySem.F.slot_str_startswith PySem.F.type_str_startswith mt_startswith (pv 0) pe_str)) (pss_cons (ps_asg (pe_partition (pe_slice sl_str (pv 0) (po_some pe_int) po_none) pe_str) (pg_tup (by rfl) (pgs_cons (pg_name (i := 1) scSp.nd rfl (Or.inl rfl)) (pgs_cons (pg_name (i := 2) scSp.nd rfl (Or.inl rfl)) (pgs_cons (pg_name (i := 3) scSp.nd rfl (Or.inl rfl)) pgs_nil)))))
      (pss_cons (ps_expr (pe_call GW hr (by rfl) gW FW.kp bW .nil (pass_own (takes_of rfl rfl rfl rfl)) (pa_cons (pv 1) pa_nil)))
      (pss_one (ps_ret (pe_tup (pa_cons (pv 1) (pa_cons pe_bl (pa_cons (pe_ifExp (pt_cmpR op_eq (pv 2) pe_str (nomark _)) (pe_call GNi hr (by rfl) gNi FNi.kp bNi .nil (pass_own (takes_of rfl rfl rfl rfl)) (pa_cons (pv 3) pa_nil)) (pe_lst pa_nil)) pa_nil)))))))) pss_nil)
      (pss_cons (ps_if (pt_cmpR op_in_seq (pv 0) (pe_tup (pa_cons pe_str (pa_cons pe_str pa_nil))) rfl) (pss_one (ps_ret (pe_tup (pa_cons pe_str (pa_cons (pe_cmpR op_eq (pv 0) pe_str (nomark _)) (pa_cons (pe_lst pa_nil) pa_nil)))))) pss_nil)
      (pss_cons (ps_if (pt_val (pe_m1 PySem.F.slot_str_startswith PySem.F.type_str_startswith mt_startswith (pv 0) pe_str)) (pss_one (ps_ret (pe_tup (pa_cons pe_str (pa_cons pe_bl (pa_cons (pe_call GNi hr (by rfl) gNi FNi.kp bNi .nil (pass_own (takes_of rfl rfl rfl rfl)) (pa_cons (pe_slice sl_str (pv 0) (po_some pe_int) po_none) pa_nil)) pa_nil)))))) pss_nil)
      (pss_one (ps_ret (pe_tup (pa_cons pe_str (pa_cons pe_bl (pa_cons (pe_call GNi hr (by rfl) gNi FNi.kp bNi .nil (pass_own (takes_of rfl rfl rfl rfl)) (pa_cons (pv 0) pa_nil)) pa_nil))))))))), ?_⟩
    have big : 1000 ≤ sizeLine := by decide
    have sw : ∀ {H1 : Hp} {σ : L2.St}, σ[0]? = some (some (.str z)) → ∀ c : Str, ∀ n : Nat, c = ⟨#[n]⟩ → Ev (tM1 (fun x xs H Q => ∃ a b, x = .str a ∧ xs = [.str b] ∧ Q (.bl (Txt.startswith a b)) H) (tVar 0) (tC (.str c))) σ H1 (.bl (decide (z.cps.toList[0]? = some n))) := fun h c n e => by
      subst e
      exact ev_is (ev_sw (ev_var h) ev_c) (congrArg V.bl (sw_one z n))
    have inn : ∀ {H1 : Hp} {σ : L2.St}, σ[0]? = some (some (.str z)) → EvT (tTest (tOp (rIn K false) (tVar 0) (tTup (tCons (tC (.str (Str.ofString ""))) (tCons (tC (.str (Str.ofString "/"))) tNil))))) σ H1 (inV (.str z) [.str (Str.ofString ""), .str (Str.ofString "/")]) := fun h => et_test (ev_inU (ev_var h) (eu_tup (ea_cons ev_c (ea_cons ev_c ea_nil)) (by show 2 ≤ 100000; decide)) rfl rfl)
    rcases hD with ⟨e, ho⟩ | ⟨e, ho⟩ | ⟨n1, n2, c, r, hz, hD⟩
    · subst e
      refine q_when (b := false) (et_is (et_B (sw rfl _ 64 at_e)) (by decide +kernel)) (fun h => by cases h) (fun _ H1 e1 => ?_)
      refine q_when (b := true) (et_is (inn rfl) (by decide +kernel)) (fun _ H2 e2 => ?_) (fun h => by cases h)
      exact s_ret3 ev_c (ev_is (ev_op (ev_var rfl) ev_c (rv_eq rfl)) (congrArg V.bl (by decide +kernel : decide (V.str (Str.ofString "") = V.str (Str.ofString "/")) = false))) (el_lst ea_nil (by decide)) fun p l H3 hp e3 h3 h4 => q _ ho p l H3 (fresh_back (e1.trans e2) hp) ((e1.trans e2).trans e3) h3 h4
    · subst e
      refine q_when (b := false) (et_is (et_B (sw rfl _ 64 at_e)) (by decide +kernel)) (fun h => by cases h) (fun _ H1 e1 => ?_)
      refine q_when (b := true) (et_is (inn rfl) (by decide +kernel)) (fun _ H2 e2 => ?_) (fun h => by cases h)
      exact s_ret3 ev_c (ev_is (ev_op (ev_var rfl) ev_c (rv_eq rfl)) (congrArg V.bl (by decide +kernel : decide (V.str slash = V.str (Str.ofString "/")) = true))) (el_lst ea_nil (by decide)) fun p l H3 hp e3 h3 h4 => q _ ho p l H3 (fresh_back (e1.trans e2) hp) ((e1.trans e2).trans e3) h3 h4
    · have z0 : ∀ n : Nat, decide (z.cps.toList[0]? = some n) = decide (c = n) := fun n => by
        rw [hz]
        exact decide_eq_decide.mpr ⟨fun h => Option.some.inj h, fun h => congrArg some h⟩
      have cl := cut1_len z
      have ct := cut_tail z
      rw [hz] at ct
      have nin : inV (.str z) [.str (Str.ofString ""), .str (Str.ofString "/")] = false := by
        show ((Str.ofString "" == z) || ((Str.ofString "/" == z) || false)) = false
        have a1 : (Str.ofString "" == z) = false := beq_eq_false_iff_ne.mpr fun e => n1 e.symm
        have a2 : (Str.ofString "/" == z) = false := beq_eq_false_iff_ne.mpr fun e => n2 e.symm
        rw [a1, a2]
        rfl
      rcases hD with ⟨rfl, hr, v, hv, ho⟩ | ⟨rfl, p, q', v, u, e, hp, hv, hu, ho⟩ | ⟨rfl, u, hu, ho⟩ | ⟨c1, c2, ho⟩
      · refine q_when (b := true) (et_is (et_B (sw rfl _ 64 at_e)) (by rw [z0]; rfl)) (fun _ H1 e1 => ?_) (fun h => by cases h)
        have hc : cutS z (some 1) none = v := str_ext (ct.trans hv.symm)
        have hpt : Txt.partition v (Str.ofString "/") = (v, Str.empty, Str.empty) := TL.partition_none (s := 47) (S := []) (by decide +kernel) (by show 47 ∉ v.cps.toList; rw [hv]; exact hr)
        rw [hc] at cl
        refine q_part (a := v) (ev_is (ev_slS (ev_var rfl) (eo_some ev_c) eo_none (by omega)) (congrArg V.str hc)) ev_c (by decide) (by omega) hpt fun H2 e2 => ?_
        refine q_drop (vs := [.str v]) (ea_cons (ev_var rfl) ea_nil) fun H3 e3 => ⟨v, rfl, by rw [← str_len]; omega, hT.mono ((e1.trans e2).trans e3), fun hN H4 e4 => ?_, fun hN H4 e4 => qE (by rw [ho, if_neg hN]) H4 (((e1.trans e2).trans e3).trans e4)⟩
        have e04 := ((e1.trans e2).trans e3).trans e4
        rw [if_pos hN] at ho
        exact s_ret3 (ev_var rfl) ev_c (el_if (b := false) (et_is (et_test (ev_op (ev_var rfl) ev_c (rv_eq rfl))) (by decide +kernel)) (fun h => by cases h) (fun _ => el_lst ea_nil (by decide))) fun p l H5 hp e5 h5 h6 => q _ ho p l H5 (fresh_back e04 hp) (e04.trans e5) h5 h6
      · refine q_when (b := true) (et_is (et_B (sw rfl _ 64 at_e)) (by rw [z0]; rfl)) (fun _ H1 e1 => ?_) (fun h => by cases h)
        have hc : cutS z (some 1) none = v ++ Str.ofString "/" ++ u := str_ext (by
          rw [ct, app_list, app_list, hv, hu]
          show r = p ++ [47] ++ q'
          rw [e, List.append_assoc]
          rfl)
        have hpt : Txt.partition (v ++ Str.ofString "/" ++ u) (Str.ofString "/") = (v, Str.ofString "/", u) := TL.partition_app (s := 47) (S := []) (by decide +kernel) (by show 47 ∉ v.cps.toList; rw [hv]; exact hp)
        rw [hc] at cl
        have lvu : v.length + u.length ≤ 250 := by
          have k : (v ++ Str.ofString "/" ++ u).length = v.length + 1 + u.length := by
            rw [str_len, app_list, app_list, List.length_append, List.length_append, ← str_len, ← str_len]
            rfl
          omega
        refine q_part (a := v ++ Str.ofString "/" ++ u) (ev_is (ev_slS (ev_var rfl) (eo_some ev_c) eo_none (by omega)) (congrArg V.str hc)) ev_c (by decide) (by omega) hpt fun H2 e2 => ?_
        refine q_drop (vs := [.str v]) (ea_cons (ev_var rfl) ea_nil) fun H3 e3 => ⟨v, rfl, by rw [← str_len]; omega, hT.mono ((e1.trans e2).trans e3), fun hN H4 e4 => ?_, fun hN H4 e4 => qE (by rw [ho, if_neg hN]) H4 (((e1.trans e2).trans e3).trans e4)⟩
        have e04 := ((e1.trans e2).trans e3).trans e4
        rw [if_pos hN] at ho
        cases hw : nmsV u with
        | none =>
          rw [hw] at ho
          exact s_ret3R (ev_var rfl) ev_c (rs_if (et_is (et_test (ev_op (ev_var rfl) ev_c (rv_eq rfl))) (by decide +kernel)) (rs_ni (ev_var rfl) (by omega) (hT.mono e04) hw fun H5 e5 => qE ho H5 (e04.trans e5)))
        | some ws =>
          rw [hw] at ho
          exact s_ret3 (ev_var rfl) ev_c (el_if (b := true) (et_is (et_test (ev_op (ev_var rfl) ev_c (rv_eq rfl))) (by decide +kernel)) (fun _ => el_ni (ev_var rfl) (by omega) (hT.mono e04) hw) (fun h => by cases h)) fun p l H5 hp e5 h5 h6 => q _ ho p l H5 (fresh_back e04 hp) (e04.trans e5) h5 h6
      · refine q_when (b := false) (et_is (et_B (sw rfl _ 64 at_e)) (by rw [z0]; rfl)) (fun h => by cases h) (fun _ H1 e1 => ?_)
        refine q_when (b := false) (et_is (inn rfl) nin) (fun h => by cases h) (fun _ H2 e2 => ?_)
        refine q_when (b := true) (et_is (et_B (sw rfl _ 47 sl_e)) (by rw [z0]; rfl)) (fun _ H3 e3 => ?_) (fun h => by cases h)
        have e03 := (e1.trans e2).trans e3
        have hc : cutS z (some 1) none = u := str_ext (ct.trans hu.symm)
        cases hw : nmsV u with
        | none =>
          rw [hw] at ho
          exact s_ret3R ev_c ev_c (rs_ni (z := u) (ev_is (ev_slS (ev_var rfl) (eo_some ev_c) eo_none (by omega)) (congrArg V.str hc)) (by rw [hc] at cl; omega) (hT.mono e03) hw fun H5 e5 => qE ho H5 (e03.trans e5))
        | some ws =>
          rw [hw] at ho
          exact s_ret3 ev_c ev_c (el_ni (z := u) (ev_is (ev_slS (ev_var rfl) (eo_some ev_c) eo_none (by omega)) (congrArg V.str hc)) (by rw [hc] at cl; omega) (hT.mono e03) hw) fun p l H5 hp e5 h5 h6 => q _ ho p l H5 (fresh_back e03 hp) (e03.trans e5) h5 h6
      · refine q_when (b := false) (et_is (et_B (sw rfl _ 64 at_e)) (by rw [z0]; exact decide_eq_false c1)) (fun h => by cases h) (fun _ H1 e1 => ?_)
        refine q_when (b := false) (et_is (inn rfl) nin) (fun h => by cases h) (fun _ H2 e2 => ?_)
        refine q_when (b := false) (et_is (et_B (sw rfl _ 47 sl_e)) (by rw [z0]; exact decide_eq_false c2)) (fun h => by cases h) (fun _ H3 e3 => ?_)
        have e03 := (e1.trans e2).trans e3
        cases hw : nmsV z with
        | none =>
          rw [hw] at ho
          exact s_ret3R ev_c ev_c (rs_ni (ev_var rfl) (by omega) (hT.mono e03) hw fun H5 e5 => qE ho H5 (e03.trans e5))
        | some ws =>
          rw [hw] at ho
          exact s_ret3 ev_c ev_c (el_ni (ev_var rfl) (by omega) (hT.mono e03) hw) fun p l H5 hp e5 h5 h6 => q _ ho p l H5 (fresh_back e03 hp) (e03.trans e5) h5 h6
end
end K37

set_option Elab.async false
set_option linter.all false
set_option maxRecDepth 100000
set_option maxHeartbeats 4000000
namespace K37
open PySem PySem.Spec PyProof.Rows L2 Evl LK LT LG LS LQ LX
theorem eq_one (c n : Nat) (s : Str) (h : s = ⟨#[n]⟩) : decide (V.str ⟨#[c]⟩ = V.str s) = decide (c = n) := by
  subst h
  refine decide_eq_decide.mpr ⟨fun e => ?_, fun e => by rw [e]⟩
  have e1 := congrArg (fun x : Str => x.cps.toList) (V.str.inj e)
  exact (List.cons.inj e1).1
section
variable {P : Program} {w : World} {K : PySem.W.Frag} {mg : Str → Option Value} {base : Heap} {tA tB tL tM : Tok}
theorem ok_due {f fX fL : Addr} {fd fdX fdL : FuncData} (F : Fun K "_law_due" "_law_due" sDue f fd) (FX : Fun K "_law_word" "_law_word" sLw fX fdX) (bX : Binds K fdX ["text"] []) (gX : mg "_law_word" = some (.ref fX)) (FL : Fun K "_law_names" "_law_names" sLns fL fdL) (bL : Binds K fdL ["text"] []) (gL : mg "_law_names" = some (.ref fL)) (T : Txt mg tA tB tL tM) : FnOk P w K mg base CX0 3 f fd ["path"] spDue := by
  have GX : FnOk P w K mg base CX0 2 fX fdX ["text"] spLw := (ok_lw FX T).mono (by decide)
  have GL : FnOk P w K mg base CX0 2 fL fdL ["text"] spLns := ok_lns FL FX bX gX T
  refine F.ok scDue (fun vs H Q E h => ?_) (fun cdv A outer s H vs Q E hr h => ?_)
  · obtain ⟨z, o, rfl, _⟩ := h
    rfl
  · obtain ⟨z, o, rfl, hl, hD, q, qN⟩ := h
    refine ⟨_, (pss_cons (ps_if (PW.pt (pw_or (pt_cmpR op_eq (pv 0) pe_str (nomark _)) (pw_or1 (pt_cmpR op_eq (pv 0) pe_str (nomark _))))) (pss_one (ps_ret (pe_tup (pa_cons pe_str (pa_cons (pe_cmpR op_eq (pv 0) pe_str (nomark _)) (pa_cons (pe_lst pa_nil) pa_nil)))))) pss_nil)
      (pss_cons (ps_set (i := 1) scDue.nd rfl (Or.inl rfl) pe_str)
      (pss_cons (ps_set (i := 2) scDue.nd rfl (Or.inl rfl) (pv 0))
      (pss_cut (ps_if (pt_cmpR op_eq (pe_ix ix_str (pv 0) pe_int (fun _ _ => rfl)) pe_str (nomark _)) (pss_one (ps_set (i := 2) scDue.nd rfl (Or.inl rfl) (pe_slice sl_str (pv 0) (po_some pe_int) po_none))) (pss_one (ps_if (pt_cmpR op_eq (pe_ix ix_str (pv 0) pe_int (fun _ _ => rfl)) pe_str (nomark _)) (pss_cons (ps_set (i := 3) scDue.nd rfl (Or.inl rfl) (pe_m1 PySem.F.slot_str_find PySem.F.type_str_find mt_find (pv 0) pe_str))
      (pss_cons (ps_if (pt_cmpR op_lt (pv 3) pe_int (nomark _)) (pss_one (ps_set (i := 3) scDue.nd rfl (Or.inl rfl) (pe_callB call_len_str (by rfl) T.len (by decide +kernel) (pa_cons (pv 0) pa_nil)))) pss_nil)
      (pss_cons (ps_set (i := 1) scDue.nd rfl (Or.inl rfl) (pe_slice sl_str (pv 0) (po_some pe_int) (po_some (pv 3))))
      (pss_cons (ps_if (pt_cmpR op_lt (pe_call GX hr (by rfl) gX FX.kp bX .nil pass0 (pa_cons (pv 1) pa_nil)) pe_int (nomark _)) (pss_one (ps_ret pe_non)) pss_nil)
      (pss_cons (ps_if (pt_cmpR op_eq (pv 3) (pe_callB call_len_str (by rfl) T.len (by decide +kernel) (pa_cons (pv 0) pa_nil)) (nomark _)) (pss_one (ps_ret (pe_tup (pa_cons (pv 1) (pa_cons pe_bl (pa_cons (pe_lst pa_nil) pa_nil)))))) pss_nil)
      (pss_one (ps_set (i := 2) scDue.nd rfl (Or.inl rfl) (pe_slice sl_str (pv 0) (po_some (pe_op op_add (pv 3) pe_int)) po_none)))))))) pss_nil)))
      (pss_cons (ps_set (i := 4) scDue.nd rfl (Or.inl rfl) (pe_call GL hr (by rfl) gL FL.kp bL .nil pass0 (pa_cons (pv 2) pa_nil)))
      (pss_cons (ps_if (pt_cmpR op_isN (pv 4) pe_non (nomark _)) (pss_one (ps_ret pe_non)) pss_nil)
      (pss_one (ps_ret (pe_tup (pa_cons (pv 1) (pa_cons (pe_or (pe_cmpR op_eq (pe_ix ix_str (pv 0) pe_int (fun _ _ => rfl)) pe_str (nomark _)) (pe_one (pe_cmpR op_eq (pe_ix ix_str (pv 0) pe_int (fun _ _ => rfl)) pe_str (nomark _)))) (pa_cons (pv 4) pa_nil)))))))))))), ?_⟩
    have big : 1000 ≤ sizeLine := by decide
    have hlz := str_len z
    rcases hD with ⟨e, ho⟩ | ⟨e, ho⟩ | ⟨n1, n2, c, r, hz, hD⟩
    · subst e
      refine q_when (b := true) (et_is (et_or (et_test (ev_op (ev_var rfl) ev_c (rv_eq rfl))) (fun _ => et_test (ev_op (ev_var rfl) ev_c (rv_eq rfl)))) (by decide +kernel)) (fun _ H1 e1 => ?_) (fun h => by cases h)
      exact s_ret3 ev_c (ev_is (ev_op (ev_var rfl) ev_c (rv_eq rfl)) (congrArg V.bl (by decide +kernel : decide (V.str (Str.ofString "") = V.str (Str.ofString "/")) = false))) (el_lst ea_nil (by decide)) fun p l H3 hp e3 h3 h4 => q _ ho p l H3 (fresh_back e1 hp) (e1.trans e3) h3 h4
    · subst e
      refine q_when (b := true) (et_is (et_or (et_test (ev_op (ev_var rfl) ev_c (rv_eq rfl))) (fun _ => et_test (ev_op (ev_var rfl) ev_c (rv_eq rfl)))) (by decide +kernel)) (fun _ H1 e1 => ?_) (fun h => by cases h)
      exact s_ret3 ev_c (ev_is (ev_op (ev_var rfl) ev_c (rv_eq rfl)) (congrArg V.bl (by decide +kernel : decide (V.str slash = V.str (Str.ofString "/")) = true))) (el_lst ea_nil (by decide)) fun p l H3 hp e3 h3 h4 => q _ ho p l H3 (fresh_back e1 hp) (e1.trans e3) h3 h4
    · have z0 : z.cps.toList[0]? = some c := by rw [hz]; rfl
      have hlen : z.cps.toList.length = r.length + 1 := by rw [hz]; rfl
      have cl := cut1_len z
      have ct := cut_tail z
      rw [hz] at ct
      have tst : ∀ {H1 : Hp} {σ : L2.St} (n : Nat) (s : Str), σ[0]? = some (some (.str z)) → s = ⟨#[n]⟩ → Ev (tOp rEq (tOp rIxS (tVar 0) (tC (.int 0))) (tC (.str s))) σ H1 (.bl (decide (c = n))) := fun n s h e => ev_is (ev_op (ev_op (ev_var h) ev_c (rv_ixS (by omega) (atI_nat z0))) ev_c (rv_eq rfl)) (congrArg V.bl (eq_one c n s e))
      refine q_when (b := false) (et_is (et_or (et_test (ev_op (ev_var rfl) ev_c (rv_eq rfl))) (fun _ => et_test (ev_op (ev_var rfl) ev_c (rv_eq rfl)))) (by
        rw [decide_eq_false fun e => n1 (V.str.inj e), Bool.false_or]
        exact decide_eq_false fun e => n2 (V.str.inj e))) (fun h => by cases h) (fun _ H1 e1 => ?_)
      refine q_asg ev_c fun H2 e2 => q_asg (ev_var rfl) fun H3 e3 => ?_
      have e03 := (e1.trans e2).trans e3
      refine q_cut (M := fun σ2 H8 => ∃ (v u : Str) (y3 : Option V), σ2 = [some (.str z), some (.str v), some (.str u), y3, none] ∧ Ex H H8 ∧ u.length ≤ 300 ∧ o = (nmsV u).map fun ws => (v, (decide (c = 47) || decide (c = 64)), ws)) ?_ ?_
      · rcases hD with ⟨rfl, hr, v, hv, ho⟩ | ⟨rfl, p, q', v, u, e, hp, hv, hu, ho⟩ | ⟨rfl, u, hu, ho⟩ | ⟨c1, c2, ho⟩
        · refine s_if (b := false) (et_is (et_test (tst 47 _ rfl sl_e)) rfl) (fun h => by cases h) (fun _ H4 e4 => ?_)
          refine s_when (b := true) (et_is (et_test (tst 64 _ rfl at_e)) rfl) (fun _ H5 e5 => ?_) (fun h => by cases h)
          have hf : Txt.find z (Str.ofString "/") = -1 := by
            rw [sl_e]
            refine find_no ?_
            rw [hz]
            intro hm
            rcases List.mem_cons.mp hm with g | g
            · cases g
            · exact hr g
          refine q_asg (v := .int (-1)) (ev_is (ev_find (ev_var rfl) ev_c) (congrArg V.int hf)) fun H6 e6 => ?_
          refine q_when (b := true) (et_is (et_test (ev_op (ev_var rfl) ev_c rv_I0)) (by decide)) (fun _ H7 e7 => ?_) (fun h => by cases h)
          refine s_asg (v := .int (z.length : Int)) (ev_lenS (ev_var rfl) (by omega)) fun H8 e8 => ?_
          have hcut : cutS z (some 1) (some (z.length : Int)) = v := str_ext (by
            rw [hlz, show (1 : Int) = ((1 : Nat) : Int) from rfl, cut_midS z 1 _ (by omega) (Nat.le_refl _), hv, hz]
            show (r.take (r.length + 1 - 1)) = r
            rw [Nat.add_sub_cancel, List.take_length])
          refine q_asg (v := .str v) (ev_is (ev_slS (ev_var rfl) (eo_some ev_c) (eo_some (ev_var rfl)) (by omega)) (congrArg V.str hcut)) fun H9 e9 => ?_
          have lv : v.cps.toList.length ≤ 300 := by rw [hv]; omega
          have e09 := ((e03.trans e4).trans e5).trans (((e6.trans e7).trans e8).trans e9)
          have cw : ∀ {H1 : Hp}, Ev (tCall spLw [] E0 (tCons (tVar 1) tNil)) [some (.str z), some (.str v), some (.str z), some (.int (z.length : Int)), none] H1 (.int (wdV v)) := ev_call (vs := [.str v]) (ea_cons (ev_var rfl) ea_nil) (fun H1 e1 Q' q' E' => ⟨v, rfl, lv, q'⟩)
          by_cases hN : Nm v
          · have w0 := wd_nn hN
            rw [if_pos hN] at ho
            refine q_when (b := false) (et_is (et_test (ev_op cw ev_c rv_I0)) (decide_eq_false (by omega))) (fun h => by cases h) (fun _ H10 e10 => ?_)
            refine q_when (b := true) (et_is (et_test (ev_op (ev_var rfl) (ev_lenS (ev_var rfl) (by omega)) (rv_eq rfl))) (decide_eq_true rfl)) (fun _ H11 e11 => ?_) (fun h => by cases h)
            have e011 := (e09.trans e10).trans e11
            exact s_ret3 (ev_var rfl) ev_c (el_lst ea_nil (by decide)) fun p l H12 hp e12 h12 h13 => q _ ho p l H12 (fresh_back e011 hp) (e011.trans e12) h12 h13
          · have w0 := wd_no hN
            rw [if_neg hN] at ho
            refine q_when (b := true) (et_is (et_test (ev_op cw ev_c rv_I0)) (decide_eq_true (by omega))) (fun _ H10 e10 => ?_) (fun h => by cases h)
            exact s_ret ev_c fun H11 e11 => qN ho H11 ((e09.trans e10).trans e11)
        · refine s_if (b := false) (et_is (et_test (tst 47 _ rfl sl_e)) rfl) (fun h => by cases h) (fun _ H4 e4 => ?_)
          refine s_when (b := true) (et_is (et_test (tst 64 _ rfl at_e)) rfl) (fun _ H5 e5 => ?_) (fun h => by cases h)
          have hz2 : z.cps.toList = (64 :: p) ++ 47 :: q' := by rw [hz, e]; rfl
          have hf : Txt.find z (Str.ofString "/") = ((p.length + 1 : Nat) : Int) := by
            rw [sl_e]
            refine find_at hz2 fun hm => ?_
            rcases List.mem_cons.mp hm with g | g
            · cases g
            · exact hp g
          have hlp : z.cps.toList.length = p.length + q'.length + 2 := by
            rw [hz2, List.length_append, List.length_cons, List.length_cons]
            omega
          refine q_asg (v := .int ((p.length + 1 : Nat) : Int)) (ev_is (ev_find (ev_var rfl) ev_c) (congrArg V.int hf)) fun H6 e6 => ?_
          refine q_when (b := false) (et_is (et_test (ev_op (ev_var rfl) ev_c rv_I0)) (decide_eq_false (by omega))) (fun h => by cases h) (fun _ H7 e7 => ?_)
          have hcut : cutS z (some 1) (some ((p.length + 1 : Nat) : Int)) = v := str_ext (by
            rw [show (1 : Int) = ((1 : Nat) : Int) from rfl, cut_midS z 1 _ (by omega) (by omega), hv, hz2]
            show ((p ++ 47 :: q').take (p.length + 1 - 1)) = p
            rw [Nat.add_sub_cancel, List.take_left' rfl])
          refine q_asg (v := .str v) (ev_is (ev_slS (ev_var rfl) (eo_some ev_c) (eo_some (ev_var rfl)) (by omega)) (congrArg V.str hcut)) fun H9 e9 => ?_
          have lv : v.cps.toList.length ≤ 300 := by rw [hv]; omega
          have lu : u.length ≤ 300 := by rw [str_len, hu]; omega
          have e09 := ((e03.trans e4).trans e5).trans ((e6.trans e7).trans e9)
          have cw : ∀ {H1 : Hp}, Ev (tCall spLw [] E0 (tCons (tVar 1) tNil)) [some (.str z), some (.str v), some (.str z), some (.int ((p.length + 1 : Nat) : Int)), none] H1 (.int (wdV v)) := ev_call (vs := [.str v]) (ea_cons (ev_var rfl) ea_nil) (fun H1 e1 Q' q' E' => ⟨v, rfl, lv, q'⟩)
          by_cases hN : Nm v
          · have w0 := wd_nn hN
            rw [if_pos hN] at ho
            refine q_when (b := false) (et_is (et_test (ev_op cw ev_c rv_I0)) (decide_eq_false (by omega))) (fun h => by cases h) (fun _ H10 e10 => ?_)
            refine q_when (b := false) (et_is (et_test (ev_op (ev_var rfl) (ev_lenS (ev_var rfl) (by omega)) (rv_eq rfl))) (decide_eq_false fun g => by
              have g' := V.int.inj g
              omega)) (fun h => by cases h) (fun _ H11 e11 => ?_)
            have hcut2 : cutS z (some (((p.length + 1 : Nat) : Int) + 1)) none = u := str_ext (by
              rw [show ((p.length + 1 : Nat) : Int) + 1 = ((p.length + 2 : Nat) : Int) by omega, cut_fromS, hu, hz2]
              show ((64 :: (p ++ 47 :: q')).drop (p.length + 2)) = q'
              rw [List.drop_succ_cons, ← List.drop_drop, List.drop_left' rfl]
              rfl)
            exact s_asg (v := .str u) (ev_is (ev_slS (ev_var rfl) (eo_some (ev_op (ev_var rfl) ev_c rv_I0)) eo_none (by omega)) (congrArg V.str hcut2)) fun H12 e12 => ⟨v, u, _, rfl, ((e09.trans e10).trans e11).trans e12, lu, ho⟩
          · have w0 := wd_no hN
            rw [if_neg hN] at ho
            refine q_when (b := true) (et_is (et_test (ev_op cw ev_c rv_I0)) (decide_eq_true (by omega))) (fun _ H10 e10 => ?_) (fun h => by cases h)
            exact s_ret ev_c fun H11 e11 => qN ho H11 ((e09.trans e10).trans e11)
        · have hc : cutS z (some 1) none = u := str_ext (ct.trans hu.symm)
          refine s_if (b := true) (et_is (et_test (tst 47 _ rfl sl_e)) rfl) (fun _ H4 e4 => ?_) (fun h => by cases h)
          exact s_asg (v := .str u) (ev_is (ev_slS (ev_var rfl) (eo_some ev_c) eo_none (by omega)) (congrArg V.str hc)) fun H5 e5 => ⟨_, u, _, rfl, (e03.trans e4).trans e5, by rw [hc] at cl; omega, ho⟩
        · refine s_if (b := false) (et_is (et_test (tst 47 _ rfl sl_e)) (decide_eq_false c2)) (fun h => by cases h) (fun _ H4 e4 => ?_)
          refine s_when (b := false) (et_is (et_test (tst 64 _ rfl at_e)) (decide_eq_false c1)) (fun h => by cases h) (fun _ H5 e5 => ⟨_, z, _, rfl, (e03.trans e4).trans e5, by omega, by rw [decide_eq_false c1, decide_eq_false c2]; exact ho⟩)
      · rintro σ2 H8 ⟨v, u, y3, rfl, e8, hul, ho⟩
        refine q_call (vs := [.str u]) (ea_cons (ev_var rfl) ea_nil) fun H9 e9 => ⟨u, rfl, hul, fun ws hw l H10 hl10 e10 h10 => ?_, fun hw H10 e10 => ?_⟩
        · rw [hw] at ho
          refine q_when (b := false) (et_is (et_test (ev_op (ev_var rfl) ev_c rv_isN)) rfl) (fun h => by cases h) (fun _ H11 e11 => ?_)
          have e011 := (e8.trans e9).trans (e10.trans e11)
          exact s_retU (eu_tup (ea_cons (ev_var rfl) (ea_cons (ev_orV (tst 47 _ rfl sl_e) (fun _ => tst 64 _ rfl at_e)) (ea_cons (ev_var rfl) ea_nil))) (by show 3 ≤ 100000; decide)) fun p H12 hp e12 h12 => q _ ho p l H12 (fresh_back e011 hp) (e011.trans e12) h12 ((e11.trans e12) _ _ h10)
        · rw [hw] at ho
          refine q_when (b := true) (et_is (et_test (ev_op (ev_var rfl) ev_c rv_isN)) rfl) (fun _ H11 e11 => ?_) (fun h => by cases h)
          exact s_ret ev_c fun H12 e12 => qN ho H12 ((e8.trans e9).trans ((e10.trans e11).trans e12))
end
end K37

set_option Elab.async false
set_option linter.all false
set_option maxRecDepth 100000
set_option maxHeartbeats 4000000
namespace K37
open PySem PySem.Spec PyProof.Rows L2 Evl LK LT LG LS LQ LX
def noV : List V := [.str (Str.ofString "refused"), .str (Str.ofString "name")]
def spTold (Pt : Addr) : Sp := fun vs H Q _ => ∃ (z : Str) (o : Option Pv), vs = [.str z] ∧ z.length ≤ 250 ∧ Tab H Pt ∧ Due z o ∧ (∀ x, o = some x → RetP x H Q) ∧ (o = none → ∀ p H', H p = none → Ex H H' → H' p = some (.tup noV) → Q (.ref p) H')
def spLaw (K : PySem.W.Frag) (Pt : Addr) : Sp := fun vs H Q _ => ∃ (a : Addr) (ns : List Int), vs = [.ref a] ∧ SqL K H a (ns.map V.int) ∧ ns.length ≤ 63 ∧ Tab H Pt ∧ ∀ H', Ex H H' → Q (.bl true) H'
theorem al_small : ∀ c ∈ AL, c < 0x110000 := by decide +kernel
theorem nm_ok {v : Str} (h : Nm v) : PyData.strOk v = true := by
  unfold PyData.strOk
  rw [← Array.all_toList, List.all_eq_true]
  exact fun c hc => decide_eq_true (al_small c (h.2.2.1 c hc))
theorem map_pv {o : Option (List Int)} {f : List Int → Pv} {x : Pv} (h : some x = o.map f) : ∃ ws, x = f ws := by
  cases o with
  | none => cases h
  | some ws => exact ⟨ws, Option.some.inj h⟩
theorem due_ok {z : Str} {x : Pv} (h : Due z (some x)) : PyData.strOk x.1 = true := by
  have e0 : PyData.strOk (Str.ofString "") = true := by decide +kernel
  rcases h with ⟨_, ho⟩ | ⟨_, ho⟩ | ⟨_, _, c, r, _, ⟨_, _, v, _, ho⟩ | ⟨_, p, q, v, u, _, _, _, _, ho⟩ | ⟨_, u, _, ho⟩ | ⟨_, _, ho⟩⟩
  · rw [Option.some.inj ho]
    exact e0
  · rw [Option.some.inj ho]
    exact e0
  · by_cases hN : Nm v
    · rw [if_pos hN] at ho
      rw [Option.some.inj ho]
      exact nm_ok hN
    · rw [if_neg hN] at ho
      cases ho
  · by_cases hN : Nm v
    · rw [if_pos hN] at ho
      obtain ⟨ws, e⟩ := map_pv ho
      rw [e]
      exact nm_ok hN
    · rw [if_neg hN] at ho
      cases ho
  · obtain ⟨ws, e⟩ := map_pv ho
    rw [e]
    exact e0
  · obtain ⟨ws, e⟩ := map_pv ho
    rw [e]
    exact e0
theorem cut_fromV (xs : List V) (n : Nat) : cutV xs (some (n : Int)) none = xs.drop n := by
  unfold cutV
  rw [HT.sIx_none, HT.sIx_nat, List.take_of_length_le (by rw [List.length_drop]; omega)]
  by_cases h : n ≤ xs.length
  · rw [Nat.min_eq_left h]
  · rw [Nat.min_eq_right (by omega), List.drop_eq_nil_of_le (Nat.le_refl _), List.drop_eq_nil_of_le (by omega)]
section
variable {K : PySem.W.Frag} {σ : L2.St} {H : Hp} {te ta tb : TE} {xs : List V} {D : Ends} {tz : TS}
theorem q_call1L {sp : Sp} {E : XK} {i : Nat} (h3 : EvL te σ H xs) (k : ∀ c H1, H c = none → Ex H H1 → H1 c = some (.lst xs) → sp [.ref c] H1 (fun v H2 => tz D (σ.set i (some v)) H2) E) : tSeq (tAsg (tCall sp [] E (tCons te tNil)) (gName i)) tz D σ H :=
  h3 H (Ex.refl _) _ fun c H3 hc e3 h3' => k c H3 hc e3 h3'
theorem ev_neU {x : V} {ds : List PyData} {n : Nat} (h : Ev ta σ H x) (hx : Dp K H x (.tuple ds)) (hu : EvU tb σ H xs) (hd : DpAll K H xs ds) (s : Sh n (.tuple ds)) (hn : n ≤ 64) : Ev (tOp (rNeD K) ta tb) σ H (.bl false) := fun H1 e Q q =>
  h H1 e _ fun H2 e2 => hu H2 (e.trans e2) _ fun p H3 hp e3 h3 => ⟨_, _, dp_mono ((e.trans e2).trans e3) _ hx, .tup (st_of h3) (dpa_mono ((e.trans e2).trans e3) _ hd), s.shaped hn, s.shaped hn, by rw [s.refl]; exact q H3 (e2.trans e3)⟩
end
section
variable {P : Program} {w : World} {K : PySem.W.Frag} {mg : Str → Option Value} {base : Heap} {tA tB tL tM : Tok}
theorem ok_told {f fS Pt CB CL : Addr} {fd fdS : FuncData} (F : Fun K "_law_told" "_law_told" sTold f fd) (FS : Fun K "split_path" "split_path" sSp fS fdS) (GS : FnOk P w K mg base (L2.CX P w) 4 fS fdS ["path"] (spSp Pt CB)) (bS : Binds K fdS ["path"] []) (gS : mg "split_path" = some (.ref fS)) (T : Txt mg tA tB tL tM)
    (XB : Xc K mg "BadName" CB) (XL : Xc K mg "LaminaError" CL) (XC : ExcC K CB) (sBB : PySem.W.subIn K (.ref CB) (.ref CB) = some true) (sBL : PySem.W.subIn K (.ref CB) (.ref CL) = some true) : FnOk P w K mg base CX0 5 f fd ["path"] (spTold Pt) := by
  refine F.ok scTold (fun vs H Q E h => ?_) (fun cdv A outer s H vs Q E hr h => ?_)
  · obtain ⟨z, o, rfl, _⟩ := h
    rfl
  · obtain ⟨z, o, rfl, hl, hT, hD, q, qN⟩ := h
    refine ⟨_, (pss_one (ps_try_as (i := 1) rfl rfl scTold.nd rfl rfl ⟨rfl, by decide, .inl XL.g⟩ takes0 (fun W pn xe tk _ => (pss_one (ps_ret (pe_callS GS hr (by rfl) gS FS.kp bS (fun σ => passAt tk σ) (pa_cons (pv 0) pa_nil))))) (fun a oe cls d pn hz hf => (pss_cons (ps_if (pt_val (pe_callB (call_isX XC hz hf) (by rfl) T.isinstance (by decide +kernel) (pa_cons (pv 1) (pa_cons (pe_glob (v := .ref CB) rfl XB.g rfl) pa_nil)))) (pss_one (ps_ret (pe_tup (pa_cons pe_str (pa_cons pe_str pa_nil))))) pss_nil)
      (pss_one (ps_ret (pe_tup (pa_cons pe_str (pa_cons pe_str pa_nil))))))))), ?_⟩
    refine ⟨.str z, rfl, z, o, rfl, hl, hT, hD, (fun x hx p l H' hp e' h1 h2 => q x hx p l H' hp e' h1 h2), (fun ho H2 e2 => ⟨true, XL.exm sBL, (fun _ a ha => ?_), (fun q => nomatch q)⟩)⟩
    refine q_when (b := true) (et_B (ev_isX (ev_var rfl) ev_c (XB.kit sBB (fun _ => rfl)))) (fun _ H3 e3 => ?_) (fun h => by cases h)
    exact s_retU (eu_tup (ea_cons ev_c (ea_cons ev_c ea_nil)) (by show 2 ≤ 100000; decide)) fun p H4 hp e4 h4 => qN ho p H4 (fresh_back (e2.trans e3) hp) ((e2.trans e3).trans e4) h4
theorem ok_law {f fP fU fT Pt : Addr} {fd fdP fdU fdT : FuncData} (F : Fun K "law" "law" sLaw f fd) (FP : Fun K "_law_path" "_law_path" sPath fP fdP) (GP0 : FnOk P w K mg base CX0 3 fP fdP ["script"] (spPath K)) (bP : Binds K fdP ["script"] []) (gP : mg "_law_path" = some (.ref fP)) (FU : Fun K "_law_due" "_law_due" sDue fU fdU) (GU0 : FnOk P w K mg base CX0 3 fU fdU ["path"] spDue) (bU : Binds K fdU ["path"] []) (gU : mg "_law_due" = some (.ref fU))
    (FT : Fun K "_law_told" "_law_told" sTold fT fdT) (GT : FnOk P w K mg base CX0 5 fT fdT ["path"] (spTold Pt)) (bT : Binds K fdT ["path"] []) (gT : mg "_law_told" = some (.ref fT)) (T : Txt mg tA tB tL tM) : FnOk P w K mg base CX0 6 f fd ["script"] (spLaw K Pt) := by
  have GP : FnOk P w K mg base CX0 5 fP fdP ["script"] (spPath K) := GP0.mono (by decide)
  have GU : FnOk P w K mg base CX0 5 fU fdU ["path"] spDue := GU0.mono (by decide)
  refine F.ok scLaw (fun vs H Q E h => ?_) (fun cdv A outer s H vs Q E hr h => ?_)
  · obtain ⟨a, ns, rfl, _⟩ := h
    rfl
  · obtain ⟨a, ns, rfl, hS, hlen, hT, q⟩ := h
    refine ⟨_, (pss_cons (ps_for PassesOwn.never rfl (pi_range1 (by rfl) T.range (pa_cons (pe_op op_add pe_int (pe_callB (call_min2 rfl) (by rfl) T.min (by decide +kernel) (pa_cons (pe_callB call_len_seq (by rfl) T.len (by decide +kernel) (pa_cons (pv 0) pa_nil)) (pa_cons pe_int pa_nil)))) pa_nil)) (pg_name (i := 1) scLaw.nd rfl (Or.inl rfl)) (pss_cons (ps_set (i := 2) scLaw.nd rfl (Or.inl rfl) (pe_call GP hr (by rfl) gP FP.kp bP .nil pass0 (pa_cons (pe_slice sl_list (pv 0) (po_some (pv 1)) po_none) pa_nil)))
      (pss_cons (ps_set (i := 3) scLaw.nd rfl (Or.inl rfl) (pe_call GU hr (by rfl) gU FU.kp bU .nil pass0 (pa_cons (pv 2) pa_nil)))
      (pss_cons (ps_set (i := 4) scLaw.nd rfl (Or.inl rfl) (pe_call GT hr (by rfl) gT FT.kp bT .nil pass0 (pa_cons (pv 2) pa_nil)))
      (pss_one (ps_if (pt_cmpR op_isN (pv 3) pe_non (nomark _)) (pss_one (ps_if (pt_cmpR (op_neD hr.units) (pv 4) (pe_tup (pa_cons pe_str (pa_cons pe_str pa_nil))) (nomark _)) (pss_one (ps_ret pe_bl)) pss_nil)) (pss_cons (ps_if (PW.pt (pw_or (pt_not (pt_val (pe_callB call_isi (by rfl) T.isinstance (by decide +kernel) (pa_cons (pv 4) (pa_cons (pe_bltn (v := .ty "tuple") (u := .type "tuple") (by rfl) T.tuple (by decide +kernel) rfl) pa_nil))))) (pw_or (pt_cmpR op_ne (pe_callB call_len_seq (by rfl) T.len (by decide +kernel) (pa_cons (pv 4) pa_nil)) pe_int (nomark _)) (pw_or1 (pt_cmpR (op_neD hr.units) (pv 4) (pv 3) (nomark _)))))) (pss_one (ps_ret pe_bl)) pss_nil)
      (pss_cons (ps_if (PW.pt (pw_or (pt_not (pt_val (pe_callB call_isi (by rfl) T.isinstance (by decide +kernel) (pa_cons (pe_ix ix_tup (pv 4) pe_int (fun _ _ => rfl)) (pa_cons (pe_bltn (v := .ty "str") (u := .type "str") (by rfl) T.str (by decide +kernel) rfl) pa_nil))))) (pw_or (pt_not (pt_val (pe_callB call_isi (by rfl) T.isinstance (by decide +kernel) (pa_cons (pe_ix ix_tup (pv 4) pe_int (fun _ _ => rfl)) (pa_cons (pe_bltn (v := .ty "bool") (u := .type "bool") (by rfl) T.bool (by decide +kernel) rfl) pa_nil))))) (pw_or1 (pt_not (pt_val (pe_callB call_isi (by rfl) T.isinstance (by decide +kernel) (pa_cons (pe_ix ix_tup (pv 4) pe_int (fun _ _ => rfl)) (pa_cons (pe_bltn (v := .ty "list") (u := .type "list") (by rfl) T.list (by decide +kernel) rfl) pa_nil))))))))) (pss_one (ps_ret pe_bl)) pss_nil)
      (pss_one (ps_for PassesOwn.never rfl (pi_list (pe_ix ix_tup (pv 4) pe_int (fun _ _ => rfl))) (pg_name (i := 5) scLaw.nd rfl (Or.inl rfl)) (pss_one (ps_if (PW.pt (pw_or (pt_not (pt_val (pe_callB call_isi (by rfl) T.isinstance (by decide +kernel) (pa_cons (pv 5) (pa_cons (pe_bltn (v := .ty "int") (u := .type "int") (by rfl) T.int (by decide +kernel) rfl) pa_nil))))) (pw_or1 (pt_val (pe_callB call_isi (by rfl) T.isinstance (by decide +kernel) (pa_cons (pv 5) (pa_cons (pe_bltn (v := .ty "bool") (u := .type "bool") (by rfl) T.bool (by decide +kernel) rfl) pa_nil))))))) (pss_one (ps_ret pe_bl)) pss_nil))))))))))))
      (pss_one (ps_ret pe_bl))), ?_⟩
    have hmin : (0 : Int) ≤ 1 + min (ns.length : Int) 10 ∧ 1 + min (ns.length : Int) 10 ≤ 100000 := by omega
    refine q_forR1 (n := 1 + min (ns.length : Int) 10) (ea_cons (ev_op ev_c (ev_is (LP.ev_min2 (ev_len (ev_var rfl) hS) ev_c) (congrArg V.int (by rw [List.length_map]; split <;> omega))) rv_I0) ea_nil) hmin (fun i σ' H' => ∃ y1 y2 y3 y4 y5 : Option V, σ' = [some (.ref a), y1, y2, y3, y4, y5] ∧ Ex H H') (fun H1 e1 => ⟨none, none, none, none, none, rfl, e1⟩) ?_ ?_
    · rintro i σ' H' hi ⟨y1, y2, y3, y4, y5, rfl, e0⟩
      have hdrop : cutV (ns.map V.int) (some (i : Int)) none = (ns.drop i).map V.int := by rw [cut_fromV, List.map_drop]
      refine q_call1L (xs := (ns.drop i).map V.int) (el_is (el_sl (ev_var rfl) (eo_some (ev_var rfl)) eo_none (ex_l e0 hS)) hdrop) fun c H2 hc e2 h2 => ⟨c, ns.drop i, rfl, sq_of h2, fun z hz H3 e3 => ?_⟩
      obtain ⟨o, hD⟩ := due_ex z
      have e03 := (e0.trans e2).trans e3
      cases o with
      | none =>
        refine q_call (vs := [.str z]) (ea_cons (ev_var rfl) ea_nil) fun H4 e4 => ⟨z, none, rfl, hz, hD, (fun x hx => by cases hx), fun _ H5 e5 => ?_⟩
        refine q_call (vs := [.str z]) (ea_cons (ev_var rfl) ea_nil) fun H6 e6 => ⟨z, none, rfl, hz, hT.mono (((e03.trans e4).trans e5).trans e6), hD, (fun x hx => by cases hx), fun _ p H7 hp e7 h7 => ?_⟩
        have e07 := (((e03.trans e4).trans e5).trans e6).trans e7
        refine s_if (b := true) (et_is (et_test (ev_op (ev_var rfl) ev_c rv_isN)) rfl) (fun _ H8 e8 => ?_) (fun h => by cases h)
        have dn : ∀ {H : Hp}, DpAll K H noV [.str (Str.ofString "refused"), .str (Str.ofString "name")] := .cons (.str _) (.cons (.str _) .nil)
        have shs : Sh 1 (.tuple [.str (Str.ofString "refused"), .str (Str.ofString "name")]) := ⟨by decide +kernel, by decide +kernel⟩
        exact s_when (b := false) (et_test (ev_neU (xs := noV) (ev_var rfl) (.tup (st_of (e8 _ _ h7)) dn) (eu_tup (ea_cons ev_c (ea_cons ev_c ea_nil)) (by show 2 ≤ 100000; decide)) dn shs (by decide))) (fun h => by cases h) (fun _ H9 e9 => ⟨_, _, _, _, _, rfl, (e07.trans e8).trans e9⟩)
      | some x =>
        obtain ⟨v, b, ws⟩ := x
        refine q_call (vs := [.str z]) (ea_cons (ev_var rfl) ea_nil) fun H4 e4 => ⟨z, some (v, b, ws), rfl, hz, hD, (fun x hx p l H5 hp e5 h5 h5' => ?_), fun h => by cases h⟩
        cases hx
        refine q_call (vs := [.str z]) (ea_cons (ev_var rfl) ea_nil) fun H6 e6 => ⟨z, some (v, b, ws), rfl, hz, hT.mono (((e03.trans e4).trans e5).trans e6), hD, (fun x hx p2 l2 H7 hp2 e7 h7 h7' => ?_), fun h => by cases h⟩
        cases hx
        have e07 := (((e03.trans e4).trans e5).trans e6).trans e7
        have e57 := e6.trans e7
        refine s_if (b := false) (et_is (et_test (ev_op (ev_var rfl) ev_c rv_isN)) rfl) (fun h => by cases h) (fun _ H8 e8 => ?_)
        have g2 := e8 _ _ h7
        have g2' := e8 _ _ h7'
        have dD : ∀ {H : Hp} {p l : Addr}, H p = some (.tup [.str v, .bl b, .ref l]) → H l = some (.lst (ws.map V.int)) → Dp K H (.ref p) (.tuple [.str v, .bool b, .list (ws.map PyData.int)]) := fun h h' => .tup (st_of h) (.cons (.str v) (.cons (.bl b) (.cons (.lst (sq_of h') (dp_ints ws)) .nil)))
        have sh : Sh 2 (.tuple [.str v, .bool b, .list (ws.map PyData.int)]) := sh_tup fun d hd => by
          rcases List.mem_cons.mp hd with e | hd
          · rw [e]
            exact ⟨by simp [PyData.canLay0]; exact due_ok hD, by simp [PyData.depth]⟩
          rcases List.mem_cons.mp hd with e | hd
          · rw [e]
            exact sh_bool b 1
          · rw [List.mem_singleton.mp hd]
            exact sh_lst (sh_ints ws)
        refine q_when (b := false) (et_is (et_or (et_not (et_B (ev_isi (ev_var rfl) ev_c (fun H9 e9 => .base (.tup (e9 _ _ g2))) (kit_ty rfl)))) (fun _ => et_or (et_test (ev_op (LP.ev_lenT (ev_var rfl) (st_of g2)) ev_c (rv_ne rfl))) (fun _ => et_test (ev_op (ev_var rfl) (ev_var rfl) (rv_neD (dD g2 g2') (dD ((e57.trans e8) _ _ h5) ((e57.trans e8) _ _ h5')) sh (by decide)))))) (by rfl)) (fun h => by cases h) (fun _ H9 e9 => ?_)
        have g3 := e9 _ _ g2
        have g3' := e9 _ _ g2'
        refine q_when (b := false) (et_is (et_or (et_not (et_B (ev_isi (ev_op (ev_var rfl) ev_c (rv_ixT (st_of g3) (atI_nat (j := 0) rfl))) ev_c (fun H9 e9 => .base (.str v)) (kit_ty rfl)))) (fun _ => et_or (et_not (et_B (ev_isi (ev_op (ev_var rfl) ev_c (rv_ixT (st_of g3) (atI_nat (j := 1) rfl))) ev_c (fun H9 e9 => .base (.bl b)) (kit_ty rfl)))) (fun _ => et_not (et_B (ev_isi (ev_op (ev_var rfl) ev_c (rv_ixT (st_of g3) (atI_nat (j := 2) rfl))) ev_c (fun H9 e9 => .base (.lst (e9 _ _ g3'))) (kit_ty rfl)))))) (by rfl)) (fun h => by cases h) (fun _ H10 e10 => ?_)
        have g4 := e10 _ _ g3
        have g4' := e10 _ _ g3'
        refine s_forLn (ev_op (ev_var rfl) ev_c (rv_ixT (st_of g4) (atI_nat (j := 2) rfl))) (sq_of g4') (fun j σ' H' => ∃ y5 : Option V, σ' = [some (.ref a), some (.int (i : Int)), some (.str z), some (.ref p), some (.ref p2), y5] ∧ Ex H10 H') (fun H11 e11 => ⟨_, rfl, e11⟩) (fun j σ' H' _ ⟨_, _, e'⟩ => sq_of (e' _ _ g4')) ?_ ?_
        · rintro j x σ' H' hx ⟨y5', rfl, e'⟩
          rw [List.getElem?_map] at hx
          obtain ⟨n, hn, rfl⟩ := Option.map_eq_some_iff.mp hx
          exact s_when (b := false) (et_is (et_or (et_not (et_B (ev_isi (ev_var rfl) ev_c (fun H9 e9 => .base (.int n)) (kit_ty rfl)))) (fun _ => et_B (ev_isi (ev_var rfl) ev_c (fun H9 e9 => .base (.int n)) (kit_ty rfl)))) (by rfl)) (fun h => by cases h) (fun _ H11 e11 => ⟨_, rfl, e'.trans e11⟩)
        · rintro σ' H' ⟨y5', rfl, e'⟩
          exact ⟨_, _, _, _, _, rfl, ((e07.trans e8).trans (e9.trans e10)).trans e'⟩
    · rintro σ' H' ⟨y1, y2, y3, y4, y5, rfl, e0⟩
      exact s_ret ev_c fun H2 e2 => q H2 (e0.trans e2)
end
end K37

set_option Elab.async false
set_option linter.all false
set_option maxRecDepth 100000
set_option maxHeartbeats 4000000
namespace K37
open PySem PySem.Spec PyProof.Rows L2 Evl LK LT LG LS LQ LX
theorem all_mk {l : PySem.W.OpenLaw} {w : World} {K : PySem.W.Frag} {h : Heap} {mg : Str → Option Value} {fa f1 f2 f3 f4 f5 f6 f7 f8 f9 f10 f11 f12 f13 : Addr} (X : K.In h) (G : h.Ns mainGlobals mg) (hfa : mg "law" = some (.ref fa))
    {od1 an1 od2 an2 od3 an3 od4 an4 od5 an5 od6 an6 od7 an7 od8 an8 od9 an9 od10 an10 od11 an11 od12 an12 od13 an13 : Option Addr} {sl1 sl2 sl3 sl4 sl5 sl6 sl7 sl8 sl9 sl10 sl11 sl12 sl13 : Array (Option Value)} {oc1 kV1 dc1 pm1 ct1 oc2 kV2 dc2 pm2 ct2 cd2 oc3 kV3 dc3 pm3 ct3 cd3 oc4 kV4 dc4 pm4 ct4 cd4 oc5 kV5 dc5 pm5 ct5 cd5 oc6 kV6 dc6 pm6 ct6 cd6 oc7 kV7 dc7 pm7 ct7 cd7 oc8 kV8 dc8 pm8 ct8 cd8 oc9 kV9 dc9 pm9 ct9 cd9 oc10 kV10 dc10 pm10 ct10 cd10 oc11 kV11 dc11 pm11 ct11 cd11 oc12 kV12 dc12 pm12 ct12 cd12 oc13 kV13 dc13 pm13 ct13 cd13 : Value}
    {c1_ P1_ : Addr} {e1_ : Value} {dd1_ : Option Addr} {vs1_ : Array Value} {sl1_ : Array (Option Value)}
    {tk1 tk2 tk3 tk4 : Tok}
    (a1 : PySem.W.nsIn K mainGlobals "is_name" = some (some (.ref f1))) (l1 : K.lookup f1 = some ⟨oc1, od1, .func (PySem.W.fnOf "is_name" "is_name" (defArgs sIs) (defBody sIs) (defScope sIs) .none kV1 dc1 pm1 an1 (.ref c1_) ct1), sl1⟩) (c1 : PySem.W.codeIn K (.ref c1_) "is_name" = true) (k1 : PySem.W.keepIn K (.ref f1) = true)
    (a2 : PySem.W.nsIn K mainGlobals "name_word" = some (some (.ref f2))) (l2 : K.lookup f2 = some ⟨oc2, od2, .func (PySem.W.fnOf "name_word" "name_word" (defArgs sWord) (defBody sWord) (defScope sWord) .none kV2 dc2 pm2 an2 cd2 ct2), sl2⟩) (c2 : PySem.W.codeIn K cd2 "name_word" = true) (k2 : PySem.W.keepIn K (.ref f2) = true)
    (a3 : PySem.W.nsIn K mainGlobals "names_in" = some (some (.ref f3))) (l3 : K.lookup f3 = some ⟨oc3, od3, .func (PySem.W.fnOf "names_in" "names_in" (defArgs sNin) (defBody sNin) (defScope sNin) .none kV3 dc3 pm3 an3 cd3 ct3), sl3⟩) (c3 : PySem.W.codeIn K cd3 "names_in" = true) (k3 : PySem.W.keepIn K (.ref f3) = true)
    (a4 : PySem.W.nsIn K mainGlobals "split_path" = some (some (.ref f4))) (l4 : K.lookup f4 = some ⟨oc4, od4, .func (PySem.W.fnOf "split_path" "split_path" (defArgs sSp) (defBody sSp) (defScope sSp) .none kV4 dc4 pm4 an4 cd4 ct4), sl4⟩) (c4 : PySem.W.codeIn K cd4 "split_path" = true) (k4 : PySem.W.keepIn K (.ref f4) = true)
    (a5 : PySem.W.nsIn K mainGlobals "_law_cell" = some (some (.ref f5))) (l5 : K.lookup f5 = some ⟨oc5, od5, .func (PySem.W.fnOf "_law_cell" "_law_cell" (defArgs sCel) (defBody sCel) (defScope sCel) .none kV5 dc5 pm5 an5 cd5 ct5), sl5⟩) (c5 : PySem.W.codeIn K cd5 "_law_cell" = true) (k5 : PySem.W.keepIn K (.ref f5) = true)
    (a6 : PySem.W.nsIn K mainGlobals "_law_digits" = some (some (.ref f6))) (l6 : K.lookup f6 = some ⟨oc6, od6, .func (PySem.W.fnOf "_law_digits" "_law_digits" (defArgs sDg) (defBody sDg) (defScope sDg) .none kV6 dc6 pm6 an6 cd6 ct6), sl6⟩) (c6 : PySem.W.codeIn K cd6 "_law_digits" = true) (k6 : PySem.W.keepIn K (.ref f6) = true)
    (a7 : PySem.W.nsIn K mainGlobals "_law_word" = some (some (.ref f7))) (l7 : K.lookup f7 = some ⟨oc7, od7, .func (PySem.W.fnOf "_law_word" "_law_word" (defArgs sLw) (defBody sLw) (defScope sLw) .none kV7 dc7 pm7 an7 cd7 ct7), sl7⟩) (c7 : PySem.W.codeIn K cd7 "_law_word" = true) (k7 : PySem.W.keepIn K (.ref f7) = true)
    (a8 : PySem.W.nsIn K mainGlobals "_law_name" = some (some (.ref f8))) (l8 : K.lookup f8 = some ⟨oc8, od8, .func (PySem.W.fnOf "_law_name" "_law_name" (defArgs sLn) (defBody sLn) (defScope sLn) .none kV8 dc8 pm8 an8 cd8 ct8), sl8⟩) (c8 : PySem.W.codeIn K cd8 "_law_name" = true) (k8 : PySem.W.keepIn K (.ref f8) = true)
    (a9 : PySem.W.nsIn K mainGlobals "_law_path" = some (some (.ref f9))) (l9 : K.lookup f9 = some ⟨oc9, od9, .func (PySem.W.fnOf "_law_path" "_law_path" (defArgs sPath) (defBody sPath) (defScope sPath) .none kV9 dc9 pm9 an9 cd9 ct9), sl9⟩) (c9 : PySem.W.codeIn K cd9 "_law_path" = true) (k9 : PySem.W.keepIn K (.ref f9) = true)
    (a10 : PySem.W.nsIn K mainGlobals "_law_names" = some (some (.ref f10))) (l10 : K.lookup f10 = some ⟨oc10, od10, .func (PySem.W.fnOf "_law_names" "_law_names" (defArgs sLns) (defBody sLns) (defScope sLns) .none kV10 dc10 pm10 an10 cd10 ct10), sl10⟩) (c10 : PySem.W.codeIn K cd10 "_law_names" = true) (k10 : PySem.W.keepIn K (.ref f10) = true)
    (a11 : PySem.W.nsIn K mainGlobals "_law_due" = some (some (.ref f11))) (l11 : K.lookup f11 = some ⟨oc11, od11, .func (PySem.W.fnOf "_law_due" "_law_due" (defArgs sDue) (defBody sDue) (defScope sDue) .none kV11 dc11 pm11 an11 cd11 ct11), sl11⟩) (c11 : PySem.W.codeIn K cd11 "_law_due" = true) (k11 : PySem.W.keepIn K (.ref f11) = true)
    (a12 : PySem.W.nsIn K mainGlobals "_law_told" = some (some (.ref f12))) (l12 : K.lookup f12 = some ⟨oc12, od12, .func (PySem.W.fnOf "_law_told" "_law_told" (defArgs sTold) (defBody sTold) (defScope sTold) .none kV12 dc12 pm12 an12 cd12 ct12), sl12⟩) (c12 : PySem.W.codeIn K cd12 "_law_told" = true) (k12 : PySem.W.keepIn K (.ref f12) = true)
    (a13 : PySem.W.nsIn K mainGlobals "law" = some (some (.ref f13))) (l13 : K.lookup f13 = some ⟨oc13, od13, .func (PySem.W.fnOf "law" "law" (defArgs sLaw) (defBody sLaw) (defScope sLaw) .none kV13 dc13 pm13 an13 cd13 ct13), sl13⟩) (c13 : PySem.W.codeIn K cd13 "law" = true) (k13 : PySem.W.keepIn K (.ref f13) = true)
    (g1 : PySem.W.nsIn K mainGlobals "ALPHABET" = some (some (.str K37.alpha tk1)))
    (g2 : PySem.W.nsIn K mainGlobals "BASE" = some (some (.int 40 tk2)))
    (g3 : PySem.W.nsIn K mainGlobals "LONGEST_NAME" = some (some (.int 11 tk3)))
    (g4 : PySem.W.nsIn K mainGlobals "MAX_NAMES" = some (some (.int 8 tk4)))
    (z1 : PySem.W.nsIn K mainGlobals "len" = some none)
    (z2 : PySem.W.nsIn K mainGlobals "range" = some none)
    (z3 : PySem.W.nsIn K mainGlobals "int" = some none)
    (z4 : PySem.W.nsIn K mainGlobals "min" = some none)
    (z5 : PySem.W.nsIn K mainGlobals "isinstance" = some none)
    (z6 : PySem.W.nsIn K mainGlobals "bool" = some none)
    (z7 : PySem.W.nsIn K mainGlobals "str" = some none)
    (z8 : PySem.W.nsIn K mainGlobals "list" = some none)
    (z9 : PySem.W.nsIn K mainGlobals "tuple" = some none)
    (z10 : PySem.W.nsIn K mainGlobals "all" = some none)
    (z11 : PySem.W.nsIn K mainGlobals "any" = some none)
    (t1 : K.lookup c1_ = some ⟨e1_, dd1_, .fields vs1_, sl1_⟩) (v1 : vs1_[11]? = some (.ref P1_)) (u1 : K.lookup P1_ = none)
    {CB CL : Addr}
    (gB : PySem.W.nsIn K mainGlobals "BadName" = some (some (.ref CB)))
    (xB : PySem.W.excIn K CB LX.veTail "ValueError.__new__" = true)
    (kB : PySem.W.keepIn K (.ref CB) = true)
    (bB : PySem.W.subIn K (.ref CB) (.type "BaseException") = some true)
    (tB : PySem.W.typeIn K (.ref CB) = some (.type "type"))
    (dB : PySem.W.hasDictIn K CB = true)
    (hgB : PySem.W.findIn K (.ref CB) "__getattribute__" = some (some (.builtin "BaseException.__getattribute__")))
    (hkB : PySem.W.findIn K (.ref CB) "__getattr__" = some none)
    (haB : PySem.W.findIn K (.ref CB) "__class__" = some (some (.builtin "object.__class__")))
    (hmB : PySem.W.mroIn K CB (.type "object") = some true)
    (gL : PySem.W.nsIn K mainGlobals "LaminaError" = some (some (.ref CL)))
    (xL : PySem.W.excIn K CL LX.veTail "ValueError.__new__" = true)
    (kL : PySem.W.keepIn K (.ref CL) = true)
    (bL : PySem.W.subIn K (.ref CL) (.type "BaseException") = some true)
    (tL : PySem.W.typeIn K (.ref CL) = some (.type "type"))
    (dL : PySem.W.hasDictIn K CL = true)
    (hn : PySem.W.specialIn K (.builtin "object.__class__") "__get__" = some (some (.builtin "getset_descriptor.__get__")))
    (ht : PySem.W.takesIn K (.builtin "object.__class__") = some true)
    (sBB : PySem.W.subIn K (.ref CB) (.ref CB) = some true)
    (sBL : PySem.W.subIn K (.ref CB) (.ref CL) = some true)
    : ∃ (fd : FuncData) (cs : List (Str × Addr × Addr)) (sp : Sp), (∀ p ∈ cs, p.1 ∈ (["is_name"] : List Str) ∧ PySem.W.tabIn K p.1 = some p.2 ∧ K.lookup p.2.2 = none) ∧ (∀ (s : Shared) (v : Value), BindsTo s fd ⟨[v], []⟩ [("script", v)]) ∧ (∀ (H : Hp) (a : Addr) (ns : List Int), ns.length ≤ 63 → (∀ p ∈ cs, LT.Tab H p.2.2) → SqL K H a (ns.map V.int) → ∀ Q : VK, (∀ H', Ex H H' → Q (.bl true) H') → sp [.ref a] H Q fun _ _ _ => False) ∧ ∀ base : Heap, K.In base → base.Ns mainGlobals mg → (∀ p ∈ cs, LamX.TabB base mg p.2.1 p.2.2) → FnOk l.prog w K mg base CX0 6 fa fd ["script"] sp := by
  have e := hfa.symm.trans (PySem.W.mg_of X G a13)
  cases e
  have t1' : PySem.W.tabIn K "is_name" = some (c1_, P1_) := LS.tab_mk a1 l1 t1 v1
  have F1 : FunC K "is_name" "is_name" sIs f1 _ c1_ := LS.funC_mk a1 l1 c1 k1 t1'
  have b1 := F1.fun.binds (ps := ["name"]) fun _ _ _ _ _ _ us hl => match us, hl with | [_], _ => rfl
  have m1 := PySem.W.mg_of X G a1
  have F2 := fun_mk (st := sWord) l2 c2 k2
  have b2 := F2.binds (ps := ["name"]) fun _ _ _ _ _ _ us hl => match us, hl with | [_], _ => rfl
  have m2 := PySem.W.mg_of X G a2
  have F3 := fun_mk (st := sNin) l3 c3 k3
  have b3 := F3.binds (ps := ["text"]) fun _ _ _ _ _ _ us hl => match us, hl with | [_], _ => rfl
  have m3 := PySem.W.mg_of X G a3
  have F4 := fun_mk (st := sSp) l4 c4 k4
  have b4 := F4.binds (ps := ["path"]) fun _ _ _ _ _ _ us hl => match us, hl with | [_], _ => rfl
  have m4 := PySem.W.mg_of X G a4
  have F5 := fun_mk (st := sCel) l5 c5 k5
  have b5 := F5.binds (ps := ["script", "k"]) fun _ _ _ _ _ _ us hl => match us, hl with | [_, _], _ => rfl
  have m5 := PySem.W.mg_of X G a5
  have F6 := fun_mk (st := sDg) l6 c6 k6
  have b6 := F6.binds (ps := ["cell", "bases"]) fun _ _ _ _ _ _ us hl => match us, hl with | [_, _], _ => rfl
  have m6 := PySem.W.mg_of X G a6
  have F7 := fun_mk (st := sLw) l7 c7 k7
  have b7 := F7.binds (ps := ["text"]) fun _ _ _ _ _ _ us hl => match us, hl with | [_], _ => rfl
  have m7 := PySem.W.mg_of X G a7
  have F8 := fun_mk (st := sLn) l8 c8 k8
  have b8 := F8.binds (ps := ["cell"]) fun _ _ _ _ _ _ us hl => match us, hl with | [_], _ => rfl
  have m8 := PySem.W.mg_of X G a8
  have F9 := fun_mk (st := sPath) l9 c9 k9
  have b9 := F9.binds (ps := ["script"]) fun _ _ _ _ _ _ us hl => match us, hl with | [_], _ => rfl
  have m9 := PySem.W.mg_of X G a9
  have F10 := fun_mk (st := sLns) l10 c10 k10
  have b10 := F10.binds (ps := ["text"]) fun _ _ _ _ _ _ us hl => match us, hl with | [_], _ => rfl
  have m10 := PySem.W.mg_of X G a10
  have F11 := fun_mk (st := sDue) l11 c11 k11
  have b11 := F11.binds (ps := ["path"]) fun _ _ _ _ _ _ us hl => match us, hl with | [_], _ => rfl
  have m11 := PySem.W.mg_of X G a11
  have F12 := fun_mk (st := sTold) l12 c12 k12
  have b12 := F12.binds (ps := ["path"]) fun _ _ _ _ _ _ us hl => match us, hl with | [_], _ => rfl
  have m12 := PySem.W.mg_of X G a12
  have F13 := fun_mk (st := sLaw) l13 c13 k13
  have m13 := PySem.W.mg_of X G a13
  have T : Txt mg tk1 tk2 tk3 tk4 := ⟨PySem.W.mg_none_of X G z1, PySem.W.mg_none_of X G z2, PySem.W.mg_none_of X G z3, PySem.W.mg_none_of X G z4, PySem.W.mg_none_of X G z5, PySem.W.mg_none_of X G z6, PySem.W.mg_none_of X G z7, PySem.W.mg_none_of X G z8, PySem.W.mg_none_of X G z9, PySem.W.mg_none_of X G z10, PySem.W.mg_none_of X G z11, PySem.W.mg_of X G g1, PySem.W.mg_of X G g2, PySem.W.mg_of X G g3, PySem.W.mg_of X G g4⟩
  have XB : LX.Xc K mg "BadName" CB := ⟨PySem.W.mg_of X G gB, xB, kB, bB, tB, dB⟩
  have XCB : ExcC K CB := ⟨hgB, hkB, bB, dB, haB, hn, ht, hmB⟩
  have XL : LX.Xc K mg "LaminaError" CL := ⟨PySem.W.mg_of X G gL, xL, kL, bL, tL, dL⟩
  refine ⟨PySem.W.fnOf "law" "law" (defArgs sLaw) (defBody sLaw) (defScope sLaw) .none kV13 dc13 pm13 an13 cd13 ct13, [("is_name", c1_, P1_)], spLaw K P1_, fun p hp => ?_, fun s v => .of_eq rfl, fun H a ns hl hT hS Q q => ⟨a, ns, rfl, hS, hl, hT ("is_name", c1_, P1_) (by simp), q⟩, fun base _ _ hTB => ?_⟩
  · simp only [List.mem_cons, List.not_mem_nil, or_false] at hp
    subst hp
    exact ⟨by simp, t1', u1⟩
  · have B1 : LamX.TabB base mg c1_ P1_ := hTB ("is_name", c1_, P1_) (by simp)
    have GI := ok_is (P := l.prog) (w := w) (base := base) F1 B1 T
    have GW := ok_word F2 F1.fun GI b1 m1 T XB
    have GNi := ok_ni F3 F2 GW b2 m2 T XB
    have GS := ok_sp F4 F2 GW b2 m2 F3 GNi b3 m3 T
    have GP := ok_path (P := l.prog) (w := w) (base := base) F9 F5 b5 m5 F6 b6 m6 F8 b8 m8 T
    have GU := ok_due (P := l.prog) (w := w) (base := base) F11 F7 b7 m7 F10 b10 m10 T
    have GT := ok_told F12 F4 GS b4 m4 T XB XL XCB sBB sBL
    exact ok_law F13 F9 GP b9 m9 F11 GU b11 m11 F12 GT b12 m12 T
end K37
open PySem PySem.W PyProof.Rows
set_option maxHeartbeats 0 in
theorem PySem.Challenge.cw_laminae_k37_paths_split_holds : PySem.Challenge.rw_laminae_k37_paths_split.Holds := by
  w_on; o_law; k_head; (case hw => w_witness2)
  k_fill
  refine LT.walk_tabs (l := PySem.Challenge.rw_laminae_k37_paths_split) (n := 63) (k := 6) (x := "script") ["is_name"] rfl (by decide) rfl ⟨rfl, by decide, by decide⟩ (by decide +kernel) (fun w h Y => PySem.W.kIn_of Y) ?F
  case F =>
    intro w mg fa h KX G hmg
    refine' K37.all_mk KX G hmg ?a1 ?l1 ?c1 ?k1 ?a2 ?l2 ?c2 ?k2 ?a3 ?l3 ?c3 ?k3 ?a4 ?l4 ?c4 ?k4 ?a5 ?l5 ?c5 ?k5 ?a6 ?l6 ?c6 ?k6 ?a7 ?l7 ?c7 ?k7 ?a8 ?l8 ?c8 ?k8 ?a9 ?l9 ?c9 ?k9 ?a10 ?l10 ?c10 ?k10 ?a11 ?l11 ?c11 ?k11 ?a12 ?l12 ?c12 ?k12 ?a13 ?l13 ?c13 ?k13 ?g1 ?g2 ?g3 ?g4 ?z1 ?z2 ?z3 ?z4 ?z5 ?z6 ?z7 ?z8 ?z9 ?z10 ?z11 ?t1 ?v1 ?u1 ?gB ?xB ?kB ?bB ?tB ?dB ?hgB ?hkB ?haB ?hmB ?gL ?xL ?kL ?bL ?tL ?dL ?hn ?ht ?sBB ?sBL
    (case a1 => k_is); (case l1 => k_is); (case c1 => k_is); (case k1 => k_is); (case a2 => k_is); (case l2 => k_is); (case c2 => k_is); (case k2 => k_is); (case a3 => k_is); (case l3 => k_is); (case c3 => k_is); (case k3 => k_is); (case a4 => k_is); (case l4 => k_is); (case c4 => k_is); (case k4 => k_is); (case a5 => k_is); (case l5 => k_is); (case c5 => k_is); (case k5 => k_is); (case a6 => k_is); (case l6 => k_is); (case c6 => k_is); (case k6 => k_is); (case a7 => k_is); (case l7 => k_is); (case c7 => k_is); (case k7 => k_is); (case a8 => k_is); (case l8 => k_is); (case c8 => k_is); (case k8 => k_is); (case a9 => k_is); (case l9 => k_is); (case c9 => k_is); (case k9 => k_is); (case a10 => k_is); (case l10 => k_is); (case c10 => k_is); (case k10 => k_is); (case a11 => k_is); (case l11 => k_is); (case c11 => k_is); (case k11 => k_is); (case a12 => k_is); (case l12 => k_is); (case c12 => k_is); (case k12 => k_is); (case a13 => k_is); (case l13 => k_is); (case c13 => k_is); (case k13 => k_is); (case g1 => k_is); (case g2 => k_is); (case g3 => k_is); (case g4 => k_is); (case z1 => k_is); (case z2 => k_is); (case z3 => k_is); (case z4 => k_is); (case z5 => k_is); (case z6 => k_is); (case z7 => k_is); (case z8 => k_is); (case z9 => k_is); (case z10 => k_is); (case z11 => k_is); (case t1 => k_is); (case v1 => rfl); (case u1 => rfl); (case gB => k_is); (case xB => k_exc); (case kB => k_is); (case bB => k_is); (case tB => k_is); (case dB => k_is); (case hgB => k_is); (case hkB => k_is); (case haB => k_is); (case hmB => k_is); (case gL => k_is); (case xL => k_exc); (case kL => k_is); (case bL => k_is); (case tL => k_is); (case dL => k_is); (case hn => k_is); (case ht => k_is); (case sBB => k_is); (case sBL => k_is)

